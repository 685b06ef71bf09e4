/- Joined: RefOwnK, RefSt6, StGood, StN. -/
import Derived.Test.YtodfhabkdaiopaaGreatJ27
import Derived.Test.YtodfhabkdaiopaaGreatJ28
import Derived.Test.YtodfhabkdaiopaaGreatJ26
namespace Go.Proofs.YtodfhabkdaiopaaGreat
set_option linter.unusedVariables false
set_option linter.unusedSimpArgs false
set_option maxRecDepth 100000
set_option maxHeartbeats 8000000
open Go.RowKit
theorem y32h {p:Prop} (h:p):Go.RowKit.Hid p:=Lib.hid h
structure OwS (w:World) (X Y Z:Array Value) (W:World):Prop where
 o1:Own W w.heap.size X 38
 o2:Own W (w.heap.size + 1) Y 52
 o3:Own W (w.heap.size + 1 + 1) Z 38
 be:Below w.heap.size w W
theorem OwS.later {w W W':World} {X Y Z:Array Value} (h:OwS w X Y Z W) (hb:Below W.heap.size W W'):OwS w X Y Z W' :=
 ⟨h.o1.later hb,h.o2.later hb,h.o3.later hb,h.be.trans (hb.mono h.be.size)⟩
theorem zpm {n:Int} (h1:-9223372036854775808≤n) (h2:n≤9223372036854775807):wrap64 n=n:=by unfold wrap64;omega
theorem zwp {K:Kn} {id:ByteArray} {r c:Int} (h:(r < 1 ∨ 8 < r ∨ c < 1) ∨ K.star (r - 1).toNat ≠ c - 1):ownK K id r c=zal K id r c:=by unfold ownK;rw [if_pos h]
theorem zwo {K:Kn} {id:ByteArray} {r c:Int} (h:¬((r < 1 ∨ 8 < r ∨ c < 1) ∨ K.star (r - 1).toNat ≠ c - 1)):ownK K id r c=⟨zav K.star r c,K.l⟩:=by unfold ownK;rw [if_neg h]
theorem znh (K:Kn) (id:ByteArray) (r c:Int) (v:Value) (w:World) (hR:FrW w K.l v) (hid:id.size≤maxLen) (hl1:(zaf (zal K id r c).l).length≤10000) (hl2:K.l.length≤10000) (hl3:(zaf K.l).length≤10000) (hcw:c≤9223372036854775807) :
   Calls Tryz.prog 208 #[knV K.star v,.string id,.agg #[.int .i64 r,.int .i64 c]] w fun e w'=>∃ v',e=.returned (knV (ownK K id r c).star v')∧FrFresh w' w.heap.size (zah (ownK K id r c)).l v'∧Below w.heap.size w w':=by
 obtain ⟨ov,cv,rfl⟩:=hR.val
 obtain ⟨A,l⟩:=K
 simp only at hR hl2 hl3 ⊢
 generalize hn:l.length=len at *
 have K0:=y32h (show OwS w (knA A (.slice ov len cv)) #[.int .i64 r,.int .i64 c] #[.int .i64 0,.int .i64 0,.int .i64 0,.int .i64 0,.int .i64 0,.int .i64 0,.int .i64 0,.int .i64 0,.slice none 0 0] (((w.alloc (.cells (knA A (.slice ov len cv)) 38)).alloc (.cells #[.int .i64 r,.int .i64 c] 52)).alloc (.cells #[.int .i64 0,.int .i64 0,.int .i64 0,.int .i64 0,.int .i64 0,.int .i64 0,.int .i64 0,.int .i64 0,.slice none 0 0] 38)) from
   ⟨((Own.new w (knA A (.slice ov len cv)) 38).alloc (.cells #[.int .i64 r,.int .i64 c] 52)).alloc (.cells #[.int .i64 0,.int .i64 0,.int .i64 0,.int .i64 0,.int .i64 0,.int .i64 0,.int .i64 0,.int .i64 0,.slice none 0 0] 38),
    (Own.newAt (w.alloc (.cells (knA A (.slice ov len cv)) 38)) #[.int .i64 r,.int .i64 c] 52 (b:=w.heap.size + 1) (by simp)).alloc (.cells #[.int .i64 0,.int .i64 0,.int .i64 0,.int .i64 0,.int .i64 0,.int .i64 0,.int .i64 0,.int .i64 0,.slice none 0 0] 38),
    Own.newAt ((w.alloc (.cells (knA A (.slice ov len cv)) 38)).alloc (.cells #[.int .i64 r,.int .i64 c] 52)) #[.int .i64 0,.int .i64 0,.int .i64 0,.int .i64 0,.int .i64 0,.int .i64 0,.int .i64 0,.int .i64 0,.slice none 0 0] 38 (b:=w.heap.size + 1 + 1) (by simp),
    (((Below.refl w.heap.size w).alloc (Nat.le_refl _) (.cells (knA A (.slice ov len cv)) 38)).alloc (by simp) (.cells #[.int .i64 r,.int .i64 c] 52)).alloc (by simp;omega) (.cells #[.int .i64 0,.int .i64 0,.int .i64 0,.int .i64 0,.int .i64 0,.int .i64 0,.int .i64 0,.int .i64 0,.slice none 0 0] 38)⟩)
 by_cases hc:(r < 1 ∨ 8 < r ∨ c < 1) ∨ A (r - 1).toNat ≠ c - 1
 · rw [zwp (K:=⟨A,l⟩) hc]
   have WJ:=fun w' (hb:Below w.heap.size w w')=>y32h (show Calls Tryz.prog 70 #[knV A (.slice ov len cv),.string id,.agg #[.int .i64 r,.int .i64 c]] w' (fun e w''=>∃ v',e=.returned (knV A v')∧FrFresh w'' w'.heap.size (zah (zal ⟨A,l⟩ id r c)).l v'∧Below w'.heap.size w' w'') from zdr ⟨A,l⟩ id r c (.slice ov len cv) w' (hR.later hb (Nat.le_refl _)) hid hl1 (by simp only;omega))
   rw [show (zal ⟨A,l⟩ id r c).star=A from rfl]
   generalize (zah (zal ⟨A,l⟩ id r c)).l=res at *
   clear hR hid hl1 hl2 hl3 hn
   have LA:=fun dd os q=>K0.out.o1.has.regrown dd os q
   have LB:=fun dd os q=>K0.out.o2.has.regrown dd os q
   by_cases h1:r < 1
   · have g1:decide (r < 1)=true:=decide_eq_true h1
     clear hc
     go_enter Tryz.func208,Tryz.ntmps208
     go_wp2_with fail
     refine wp_region_quiet_below (by kernel_rfl) (by kernel_rfl) ?_
     repeat (first | go_big_quiet_step (fail) | quiet_step (fail))
     refine wpQuiet_nil ?_
     intro w7 hw'
     have hb':=y32h (zag hw')
     clear hw' LA LB
     have K7:=y32h (K0.out.later hb'.out)
     have l1:=K7.out.o1.cell
     have l2:=K7.out.o2.cell
     have z1:=K7.out.o1.lt
     have z2:=K7.out.o2.lt
     have WC:=WJ w7 K7.out.be
     clear WJ K0 hb'
     go_wp2_with (go_at_call 70;refine (WC).out.mono ?_;rintro e w9 ⟨v9,rfl,hf9,hb9⟩;obtain ⟨o9,c9,rfl⟩:=hf9.fr.val;have O9:=K7.out.o3.later hb9;have l9:=O9.cell;have f9:=O9.free;have z9:=O9.lt;have KEY:=y32h (And.intro (zcg O9 (.int .i64 (A 0)) (.int .i64 (A 1)) (.int .i64 (A 2)) (.int .i64 (A 3)) (.int .i64 (A 4)) (.int .i64 (A 5)) (.int .i64 (A 6)) (.int .i64 (A 7)) (.slice o9 res.length c9)) (And.intro (zbp (b:=w.heap.size + 1 + 1) (K7.out.be.trans (hb9.mono K7.out.be.size)) (by omega) (.int .i64 (A 0)) (.int .i64 (A 1)) (.int .i64 (A 2)) (.int .i64 (A 3)) (.int .i64 (A 4)) (.int .i64 (A 5)) (.int .i64 (A 6)) (.int .i64 (A 7)) (.slice o9 res.length c9)) ((hf9.set9 K7.out.o3.lt (.int .i64 (A 0)) (.int .i64 (A 1)) (.int .i64 (A 2)) (.int .i64 (A 3)) (.int .i64 (A 4)) (.int .i64 (A 5)) (.int .i64 (A 6)) (.int .i64 (A 7)) (.slice o9 res.length c9)).mono K7.out.be.size)));clear O9 hf9 hb9)
     clear l9 f9 z9
     have key:=KEY.out
     unfold st9 st8 at key
     revert key
     generalize World.setCell (World.setCell (World.setCell (World.setCell (World.setCell (World.setCell (World.setCell (World.setCell (World.setCell _ _ _) _ _) _ _) _ _) _ _) _ _) _ _) _ _) _ _=WW
     rintro ⟨of,bf,ff⟩
     have lf:=of.cell
     refine bodyPost_ret (v:=knV (A) (.slice o9 res.length c9)) (by simp [results,Tryz.results208,go_sem,lf]) rfl ⟨_,rfl,ff,bf⟩
   by_cases h2:8 < r
   · have g1:decide (r < 1)=false:=decide_eq_false h1
     have g2:decide (8 < r)=true:=decide_eq_true h2
     clear hc
     go_enter Tryz.func208,Tryz.ntmps208
     go_wp2_with fail
     refine wp_region_quiet_below (by kernel_rfl) (by kernel_rfl) ?_
     repeat (first | go_big_quiet_step (fail) | quiet_step (fail))
     refine wpQuiet_nil ?_
     intro w7 hw'
     have hb':=y32h (zag hw')
     clear hw' LA LB
     have K7:=y32h (K0.out.later hb'.out)
     have l1:=K7.out.o1.cell
     have l2:=K7.out.o2.cell
     have z1:=K7.out.o1.lt
     have z2:=K7.out.o2.lt
     have WC:=WJ w7 K7.out.be
     clear WJ K0 hb'
     go_wp2_with (go_at_call 70;refine (WC).out.mono ?_;rintro e w9 ⟨v9,rfl,hf9,hb9⟩;obtain ⟨o9,c9,rfl⟩:=hf9.fr.val;have O9:=K7.out.o3.later hb9;have l9:=O9.cell;have f9:=O9.free;have z9:=O9.lt;have KEY:=y32h (And.intro (zcg O9 (.int .i64 (A 0)) (.int .i64 (A 1)) (.int .i64 (A 2)) (.int .i64 (A 3)) (.int .i64 (A 4)) (.int .i64 (A 5)) (.int .i64 (A 6)) (.int .i64 (A 7)) (.slice o9 res.length c9)) (And.intro (zbp (b:=w.heap.size + 1 + 1) (K7.out.be.trans (hb9.mono K7.out.be.size)) (by omega) (.int .i64 (A 0)) (.int .i64 (A 1)) (.int .i64 (A 2)) (.int .i64 (A 3)) (.int .i64 (A 4)) (.int .i64 (A 5)) (.int .i64 (A 6)) (.int .i64 (A 7)) (.slice o9 res.length c9)) ((hf9.set9 K7.out.o3.lt (.int .i64 (A 0)) (.int .i64 (A 1)) (.int .i64 (A 2)) (.int .i64 (A 3)) (.int .i64 (A 4)) (.int .i64 (A 5)) (.int .i64 (A 6)) (.int .i64 (A 7)) (.slice o9 res.length c9)).mono K7.out.be.size)));clear O9 hf9 hb9)
     clear l9 f9 z9
     have key:=KEY.out
     unfold st9 st8 at key
     revert key
     generalize World.setCell (World.setCell (World.setCell (World.setCell (World.setCell (World.setCell (World.setCell (World.setCell (World.setCell _ _ _) _ _) _ _) _ _) _ _) _ _) _ _) _ _) _ _=WW
     rintro ⟨of,bf,ff⟩
     have lf:=of.cell
     refine bodyPost_ret (v:=knV (A) (.slice o9 res.length c9)) (by simp [results,Tryz.results208,go_sem,lf]) rfl ⟨_,rfl,ff,bf⟩
   by_cases h3:c < 1
   · have g1:decide (r < 1)=false:=decide_eq_false h1
     have g2:decide (8 < r)=false:=decide_eq_false h2
     have g3:decide (c < 1)=true:=decide_eq_true h3
     clear hc
     go_enter Tryz.func208,Tryz.ntmps208
     go_wp2_with fail
     refine wp_region_quiet_below (by kernel_rfl) (by kernel_rfl) ?_
     repeat (first | go_big_quiet_step (fail) | quiet_step (fail))
     refine wpQuiet_nil ?_
     intro w7 hw'
     have hb':=y32h (zag hw')
     clear hw' LA LB
     have K7:=y32h (K0.out.later hb'.out)
     have l1:=K7.out.o1.cell
     have l2:=K7.out.o2.cell
     have z1:=K7.out.o1.lt
     have z2:=K7.out.o2.lt
     have WC:=WJ w7 K7.out.be
     clear WJ K0 hb'
     go_wp2_with (go_at_call 70;refine (WC).out.mono ?_;rintro e w9 ⟨v9,rfl,hf9,hb9⟩;obtain ⟨o9,c9,rfl⟩:=hf9.fr.val;have O9:=K7.out.o3.later hb9;have l9:=O9.cell;have f9:=O9.free;have z9:=O9.lt;have KEY:=y32h (And.intro (zcg O9 (.int .i64 (A 0)) (.int .i64 (A 1)) (.int .i64 (A 2)) (.int .i64 (A 3)) (.int .i64 (A 4)) (.int .i64 (A 5)) (.int .i64 (A 6)) (.int .i64 (A 7)) (.slice o9 res.length c9)) (And.intro (zbp (b:=w.heap.size + 1 + 1) (K7.out.be.trans (hb9.mono K7.out.be.size)) (by omega) (.int .i64 (A 0)) (.int .i64 (A 1)) (.int .i64 (A 2)) (.int .i64 (A 3)) (.int .i64 (A 4)) (.int .i64 (A 5)) (.int .i64 (A 6)) (.int .i64 (A 7)) (.slice o9 res.length c9)) ((hf9.set9 K7.out.o3.lt (.int .i64 (A 0)) (.int .i64 (A 1)) (.int .i64 (A 2)) (.int .i64 (A 3)) (.int .i64 (A 4)) (.int .i64 (A 5)) (.int .i64 (A 6)) (.int .i64 (A 7)) (.slice o9 res.length c9)).mono K7.out.be.size)));clear O9 hf9 hb9)
     clear l9 f9 z9
     have key:=KEY.out
     unfold st9 st8 at key
     revert key
     generalize World.setCell (World.setCell (World.setCell (World.setCell (World.setCell (World.setCell (World.setCell (World.setCell (World.setCell _ _ _) _ _) _ _) _ _) _ _) _ _) _ _) _ _) _ _=WW
     rintro ⟨of,bf,ff⟩
     have lf:=of.cell
     refine bodyPost_ret (v:=knV (A) (.slice o9 res.length c9)) (by simp [results,Tryz.results208,go_sem,lf]) rfl ⟨_,rfl,ff,bf⟩
   · obtain ⟨k,rfl⟩:∃ k:Nat,r=(k:Int) + 1:=⟨(r - 1).toNat,by omega⟩
     have hk:k < 8:=by omega
     have g1:decide ((k:Int) + 1 < 1)=false:=decide_eq_false h1
     have g2:decide (8 < (k:Int) + 1)=false:=decide_eq_false h2
     have g3:decide (c < 1)=false:=decide_eq_false h3
     have g4:(k:Int) + 1 - 1=(k:Int):=by omega
     have e:((k:Int) + 1 - 1).toNat=k:=by omega
     rw [e] at hc
     have hne:A k ≠ c - 1:=by rcases hc with h | h;omega;exact h
     have g7:wrap64 (c - 1)=c - 1:=zpm (by omega) (by omega)
     have g5:(A k == c - 1)=false:=by simp [hne]
     have g6:(A k != c - 1)=true:=by simp [hne]
     replace LA:=fun dd os=>(K0.out.o1.has.regrown dd os k).trans (zlu A _ hk)
     have k0:(0:Int)≤(k:Int):=by omega
     have k1:(k:Int) < 8:=by omega
     clear hc h1 h2 h3 e hne
     go_enter Tryz.func208,Tryz.ntmps208
     go_wp2_with fail
     refine wp_region_quiet_below (by kernel_rfl) (by kernel_rfl) ?_
     repeat (first | go_big_quiet_step (fail) | quiet_step (fail))
     refine wpQuiet_nil ?_
     intro w7 hw'
     have hb':=y32h (zag hw')
     clear hw' LA LB
     have K7:=y32h (K0.out.later hb'.out)
     have l1:=K7.out.o1.cell
     have l2:=K7.out.o2.cell
     have z1:=K7.out.o1.lt
     have z2:=K7.out.o2.lt
     have WC:=WJ w7 K7.out.be
     clear WJ K0 hb'
     go_wp2_with (go_at_call 70;refine (WC).out.mono ?_;rintro e w9 ⟨v9,rfl,hf9,hb9⟩;obtain ⟨o9,c9,rfl⟩:=hf9.fr.val;have O9:=K7.out.o3.later hb9;have l9:=O9.cell;have f9:=O9.free;have z9:=O9.lt;have KEY:=y32h (And.intro (zcg O9 (.int .i64 (A 0)) (.int .i64 (A 1)) (.int .i64 (A 2)) (.int .i64 (A 3)) (.int .i64 (A 4)) (.int .i64 (A 5)) (.int .i64 (A 6)) (.int .i64 (A 7)) (.slice o9 res.length c9)) (And.intro (zbp (b:=w.heap.size + 1 + 1) (K7.out.be.trans (hb9.mono K7.out.be.size)) (by omega) (.int .i64 (A 0)) (.int .i64 (A 1)) (.int .i64 (A 2)) (.int .i64 (A 3)) (.int .i64 (A 4)) (.int .i64 (A 5)) (.int .i64 (A 6)) (.int .i64 (A 7)) (.slice o9 res.length c9)) ((hf9.set9 K7.out.o3.lt (.int .i64 (A 0)) (.int .i64 (A 1)) (.int .i64 (A 2)) (.int .i64 (A 3)) (.int .i64 (A 4)) (.int .i64 (A 5)) (.int .i64 (A 6)) (.int .i64 (A 7)) (.slice o9 res.length c9)).mono K7.out.be.size)));clear O9 hf9 hb9)
     clear l9 f9 z9
     have key:=KEY.out
     unfold st9 st8 at key
     revert key
     generalize World.setCell (World.setCell (World.setCell (World.setCell (World.setCell (World.setCell (World.setCell (World.setCell (World.setCell _ _ _) _ _) _ _) _ _) _ _) _ _) _ _) _ _) _ _=WW
     rintro ⟨of,bf,ff⟩
     have lf:=of.cell
     refine bodyPost_ret (v:=knV (A) (.slice o9 res.length c9)) (by simp [results,Tryz.results208,go_sem,lf]) rfl ⟨_,rfl,ff,bf⟩
 · rw [zwo (K:=⟨A,l⟩) hc]
   have PJ:=fun v w' h=>y32h (show Calls Tryz.prog 147 #[knV (zav A r c) v] w' (fun e w''=>∃ v',e=.returned (knV (zav A r c) v')∧FrFresh w'' w'.heap.size (zah ⟨zav A r c,l⟩).l v'∧Below w'.heap.size w' w'') from zf3 ⟨zav A r c,l⟩ v w' h hl3)
   have X:=fun w'=>y32h (zhv A r c w')
   simp only
   generalize (zah ⟨zav A r c,l⟩).l=res at *
   have h1:¬ r < 1:=by omega
   have h2:¬ 8 < r:=by omega
   have h3:¬ c < 1:=by omega
   obtain ⟨k,rfl⟩:∃ k:Nat,r=(k:Int) + 1:=⟨(r - 1).toNat,by omega⟩
   have hk:k < 8:=by omega
   have e:((k:Int) + 1 - 1).toNat=k:=by omega
   rw [e] at hc
   have heq:A k=c - 1:=by omega
   have g1:decide ((k:Int) + 1 < 1)=false:=decide_eq_false h1
   have g2:decide (8 < (k:Int) + 1)=false:=decide_eq_false h2
   have g3:decide (c < 1)=false:=decide_eq_false h3
   have g4:(k:Int) + 1 - 1=(k:Int):=by omega
   have g7:wrap64 (c - 1)=c - 1:=zpm (by omega) (by omega)
   have g5:(A k == c - 1)=true:=by simp [heq]
   have g6:(A k != c - 1)=false:=by simp [heq]
   have LB:=fun dd os q=>K0.out.o2.has.regrown dd os q
   have LA:=fun dd os=>(K0.out.o1.has.regrown dd os k).trans (zlu A _ hk)
   have k0:(0:Int)≤(k:Int):=by omega
   have k1:(k:Int) < 8:=by omega
   have HRR:=y32h hR
   clear hc h1 h2 h3 e heq hR hid hl1 hl2 hl3
   generalize hV:zav A ((k:Int) + 1) c=V at *
   clear hV
   go_enter Tryz.func208,Tryz.ntmps208
   go_wp2_with fail
   refine wp_region_quiet_below (by kernel_rfl) (by kernel_rfl) ?_
   repeat (first | go_big_quiet_step (fail) | quiet_step (fail))
   refine wpQuiet_nil ?_
   intro w7 hw'
   have hb':=y32h (zag hw')
   clear hw' LA LB
   have K7:=y32h (K0.out.later hb'.out)
   clear K0 hb' g7 g1 g2 g3 g4 g5 g6
   go_upto_region 3 with fail
   go_cut [7] (fun s7 wx=>∃ bt,s7=.pointer (some ⟨bt,0,none⟩)∧Hid (OwS w (knA A (.slice ov len cv)) #[.int .i64 ((k:Int) + 1),.int .i64 c] #[.int .i64 0,.int .i64 0,.int .i64 0,.int .i64 0,.int .i64 0,.int .i64 0,.int .i64 0,.int .i64 0,.slice none 0 0] wx)∧Hid (Own wx bt (knA V (.slice ov len cv)) 38))
   case first =>
     clear PJ
     have KD:=y32h (K7.out.later (Below.refl _ _).drew)
     have KA:=y32h (K7.out.later ((Below.refl w7.heap.size w7).alloc (Nat.le_refl _) (.cells #[.int .i64 0,.int .i64 0,.int .i64 0,.int .i64 0,.int .i64 0,.int .i64 0,.int .i64 0,.int .i64 0,.slice none 0 0] 38)).drew)
     go_region_held3 (fun w'=>(∀ q,w'.cell? ⟨w.heap.size,q,none⟩=(knA A (.slice ov len cv))[q]?)∧∀ q,w'.cell? ⟨w.heap.size + 1,q,none⟩=(#[.int .i64 ((k:Int) + 1),.int .i64 c]:Array Value)[q]?) (first | with_reducible exact ⟨KD.out.o1.cell,KD.out.o2.cell⟩ | with_reducible exact ⟨KA.out.o1.cell,KA.out.o2.cell⟩ | with_reducible exact ⟨K8.out.o1.cell,K8.out.o2.cell⟩ | with_reducible exact ⟨Q3.out.o1.cell,Q3.out.o2.cell⟩ | with_reducible exact ⟨Q2.out.1.o1.cell,Q2.out.1.o2.cell⟩ | exact ⟨Q1.out.1.o1.cell,Q1.out.1.o2.cell⟩ | fail)
       (first
         | (go_simp;go_at_call 146;refine (X _).out.mono ?_;rintro e w8 ⟨rfl,hb8⟩;have B3:Below w7.heap.size w7 w8:=((Below.refl w7.heap.size w7).alloc (Nat.le_refl _) (.cells #[.int .i64 0,.int .i64 0,.int .i64 0,.int .i64 0,.int .i64 0,.int .i64 0,.int .i64 0,.int .i64 0,.slice none 0 0] 38)).drew.trans (hb8.mono (by simp));have ov3:Own w8 w7.heap.size #[.int .i64 0,.int .i64 0,.int .i64 0,.int .i64 0,.int .i64 0,.int .i64 0,.int .i64 0,.int .i64 0,.slice none 0 0] 38:=((Own.new w7 #[.int .i64 0,.int .i64 0,.int .i64 0,.int .i64 0,.int .i64 0,.int .i64 0,.int .i64 0,.int .i64 0,.slice none 0 0] 38).drew).later hb8;have K8:=y32h (K7.out.later B3);have lv:=ov3.cell;have fv:=ov3.free;have zv:=ov3.lt;have Q1:=y32h (And.intro (K7.out.later (zbp B3 (Nat.le_refl _) (.int .i64 (V 0)) (.int .i64 (V 1)) (.int .i64 (V 2)) (.int .i64 (V 3)) (.int .i64 (V 4)) (.int .i64 (V 5)) (.int .i64 (V 6)) (.int .i64 (V 7)) (.slice ov len cv))) (zcg ov3 (.int .i64 (V 0)) (.int .i64 (V 1)) (.int .i64 (V 2)) (.int .i64 (V 3)) (.int .i64 (V 4)) (.int .i64 (V 5)) (.int .i64 (V 6)) (.int .i64 (V 7)) (.slice ov len cv)));clear hb8 ov3 B3)
         | (go_simp;go_at_call 146;refine (X _).out.mono ?_;rintro e w8 ⟨rfl,hb8⟩;have B3:Below w7.heap.size w7 w8:=(Below.refl w7.heap.size w7).drew.trans hb8;have K8:=y32h (K7.out.later B3);have Q2:=y32h (And.intro (K8.out.later ((Below.refl w8.heap.size w8).alloc (Nat.le_refl _) (.cells (knA V (.slice ov len cv)) 38))) (Own.new w8 (knA V (.slice ov len cv)) 38));have Q3:=y32h (K8.out.later ((Below.refl w8.heap.size w8).alloc (Nat.le_refl _) (.cells #[.int .i64 0,.int .i64 0,.int .i64 0,.int .i64 0,.int .i64 0,.int .i64 0,.int .i64 0,.int .i64 0,.slice none 0 0] 38)));clear hb8 B3)
         | fail)
     all_goals
       go_wp2_with fail
       go_meet
       first
         | exact ⟨_,rfl,y32h Q1.out.1,y32h Q1.out.2⟩
         | exact ⟨_,rfl,y32h Q2.out.1,y32h Q2.out.2⟩
   case rest =>
     clear K7
     obtain ⟨bt,rfl,K7,HT⟩:=hcut
     generalize wc=wq at *
     have C:=PJ (.slice ov len cv) wq (HRR.out.later K7.out.be (Nat.le_refl _))
     have lT:=HT.out.cell
     have zT:=HT.out.lt
     clear PJ X HRR
     go_wp2_with (go_at_call 147;refine (C).out.mono ?_;rintro e w9 ⟨v9,rfl,hf9,hb9⟩;obtain ⟨o9,c9,rfl⟩:=hf9.fr.val;have O9:=K7.out.o3.later hb9;have l9:=O9.cell;have f9:=O9.free;have z9:=O9.lt;have KEY:=y32h (And.intro (zcg O9 (.int .i64 (V 0)) (.int .i64 (V 1)) (.int .i64 (V 2)) (.int .i64 (V 3)) (.int .i64 (V 4)) (.int .i64 (V 5)) (.int .i64 (V 6)) (.int .i64 (V 7)) (.slice o9 res.length c9)) (And.intro (zbp (b:=w.heap.size + 1 + 1) (K7.out.be.trans (hb9.mono K7.out.be.size)) (by omega) (.int .i64 (V 0)) (.int .i64 (V 1)) (.int .i64 (V 2)) (.int .i64 (V 3)) (.int .i64 (V 4)) (.int .i64 (V 5)) (.int .i64 (V 6)) (.int .i64 (V 7)) (.slice o9 res.length c9)) ((hf9.set9 K7.out.o3.lt (.int .i64 (V 0)) (.int .i64 (V 1)) (.int .i64 (V 2)) (.int .i64 (V 3)) (.int .i64 (V 4)) (.int .i64 (V 5)) (.int .i64 (V 6)) (.int .i64 (V 7)) (.slice o9 res.length c9)).mono K7.out.be.size)));clear O9 hf9 hb9)
     clear lT zT
     clear l9 f9 z9
     have key:=KEY.out
     unfold st9 st8 at key
     revert key
     generalize World.setCell (World.setCell (World.setCell (World.setCell (World.setCell (World.setCell (World.setCell (World.setCell (World.setCell _ _ _) _ _) _ _) _ _) _ _) _ _) _ _) _ _) _ _=WW
     rintro ⟨of,bf,ff⟩
     have lf:=of.cell
     refine bodyPost_ret (v:=knV (V) (.slice o9 res.length c9)) (by simp [results,Tryz.results208,go_sem,lf]) rfl ⟨_,rfl,ff,bf⟩
abbrev zak (s:St) (x:Itm):Itm:=⟨x.id,s.r,s.count + 1,s.clock + 1,x.kd,x.num,x.x,x.y,x.d⟩
abbrev cntS (s:St):St:=⟨s.r,s.f,s.store,s.out,s.k,s.count + 1,s.clock + 1,s.epoch⟩
def preS (s:St) (x:Itm):St:=⟨s.r,s.f,s.store,s.out,⟨(ownK s.k x.id s.r (s.count + 1)).star,(zah (ownK s.k x.id s.r (s.count + 1))).l⟩,s.count + 1,s.clock + 1,s.epoch⟩
def zbb (s:St) (x:Itm):St:=zbv (preS s x) (zak s x) true
def zbi (s:St):Bool:=decide (s.count=1000) || decide (s.clock=1000000)
def zhe (X:World) (b:Nat) (c0 c1 c2 c3 c4 c5 c6 c7 c8:Value):World:=((((((((X.setCell ⟨b,8,none⟩ c0).setCell ⟨b,9,none⟩ c1).setCell ⟨b,10,none⟩ c2).setCell ⟨b,11,none⟩ c3).setCell ⟨b,12,none⟩ c4).setCell ⟨b,13,none⟩ c5).setCell ⟨b,14,none⟩ c6).setCell ⟨b,15,none⟩ c7).setCell ⟨b,16,none⟩ c8
theorem FrFresh.stays {w w':World} {B:Nat} {l:List Fr} {v:Value} (h:FrFresh w B l v) (hb:Below w.heap.size w w'):FrFresh w' B l v:=fun w'' h1 h2 =>
 h w'' (fun b hB hlt=>(h1 b hB (Nat.lt_of_lt_of_le hlt hb.size)).trans (hb.block b hlt)) (Nat.le_trans hb.size h2)
theorem FrFresh.sets {B b:Nat} {l:List Fr} {v:Value} (hb:b < B) (vs:List Value):∀ {w:World} (o:Nat),FrFresh w B l v→FrFresh (w.setCells b o vs) B l v:=by
 induction vs with
 | nil=>intro w o h;exact h
 | cons u vs ih=>intro w o h;exact ih (o + 1) (h.setLow (a:=⟨b,o,none⟩) hb u)
theorem zpe (s:St) (fv sv ov kv:Value) (x:Itm) (v:Value) (c:Nat→Value) (hc:∀ j,j < 8→c j=.int .i64 ((ownK s.k x.id s.r (s.count + 1)).star j)) :
   (((((((((stA (cntS s) fv sv ov kv).setIfInBounds 8 (c 0)).setIfInBounds 9 (c 1)).setIfInBounds 10 (c 2)).setIfInBounds 11 (c 3)).setIfInBounds 12 (c 4)).setIfInBounds 13 (c 5)).setIfInBounds 14 (c 6)).setIfInBounds 15 (c 7)).setIfInBounds 16 v=stA (preS s x) fv sv ov v:=by
 simp [cntS,preS,hc 0 (by omega),hc 1 (by omega),hc 2 (by omega),hc 3 (by omega),hc 4 (by omega),hc 5 (by omega),hc 6 (by omega),hc 7 (by omega)]
theorem z0p {X:World} {b:Nat} {s:St} {fv sv ov kv:Value} (h:Own X b (stA (cntS s) fv sv ov kv) 40) (x:Itm) (v:Value):Own (zhe X b (.int .i64 ((ownK s.k x.id s.r (s.count + 1)).star 0)) (.int .i64 ((ownK s.k x.id s.r (s.count + 1)).star 1)) (.int .i64 ((ownK s.k x.id s.r (s.count + 1)).star 2)) (.int .i64 ((ownK s.k x.id s.r (s.count + 1)).star 3)) (.int .i64 ((ownK s.k x.id s.r (s.count + 1)).star 4)) (.int .i64 ((ownK s.k x.id s.r (s.count + 1)).star 5)) (.int .i64 ((ownK s.k x.id s.r (s.count + 1)).star 6)) (.int .i64 ((ownK s.k x.id s.r (s.count + 1)).star 7)) v) b (stA (preS s x) fv sv ov v) 40:=by
 have h2:=((((((((h.set 8 (.int .i64 ((ownK s.k x.id s.r (s.count + 1)).star 0))).set 9 (.int .i64 ((ownK s.k x.id s.r (s.count + 1)).star 1))).set 10 (.int .i64 ((ownK s.k x.id s.r (s.count + 1)).star 2))).set 11 (.int .i64 ((ownK s.k x.id s.r (s.count + 1)).star 3))).set 12 (.int .i64 ((ownK s.k x.id s.r (s.count + 1)).star 4))).set 13 (.int .i64 ((ownK s.k x.id s.r (s.count + 1)).star 5))).set 14 (.int .i64 ((ownK s.k x.id s.r (s.count + 1)).star 6))).set 15 (.int .i64 ((ownK s.k x.id s.r (s.count + 1)).star 7))).set 16 v
 rw [zpe s fv sv ov kv x v (fun j=>.int .i64 ((ownK s.k x.id s.r (s.count + 1)).star j)) (fun _ _=>rfl)] at h2
 exact h2
theorem ztf {X:World} {b' b:Nat} {c:Array Value} {T:TypeId} (h:Own X b' c T) (hne:b' ≠ b) (c0 c1 c2 c3 c4 c5 c6 c7 c8:Value):Own (zhe X b c0 c1 c2 c3 c4 c5 c6 c7 c8) b' c T :=
 ((((((((h.setFar _ _ hne).setFar _ _ hne).setFar _ _ hne).setFar _ _ hne).setFar _ _ hne).setFar _ _ hne).setFar _ _ hne).setFar _ _ hne).setFar _ _ hne
theorem znt {X w:World} {B b:Nat} (hb:Below B w X) (hp:B≤b) (c0 c1 c2 c3 c4 c5 c6 c7 c8:Value):Below B w (zhe X b c0 c1 c2 c3 c4 c5 c6 c7 c8) :=
 ((((((((hb.setCell (p:=⟨b,8,none⟩) hp _).setCell (p:=⟨b,9,none⟩) hp _).setCell (p:=⟨b,10,none⟩) hp _).setCell (p:=⟨b,11,none⟩) hp _).setCell (p:=⟨b,12,none⟩) hp _).setCell (p:=⟨b,13,none⟩) hp _).setCell (p:=⟨b,14,none⟩) hp _).setCell (p:=⟨b,15,none⟩) hp _).setCell (p:=⟨b,16,none⟩) hp _
theorem zn9 {X:World} {B b:Nat} {l:List Fr} {v:Value} (h:FrFresh X B l v) (hb:b < B) (c0 c1 c2 c3 c4 c5 c6 c7 c8:Value):FrFresh (zhe X b c0 c1 c2 c3 c4 c5 c6 c7 c8) B l v :=
 ((((((((h.setLow (a:=⟨b,8,none⟩) hb _).setLow (a:=⟨b,9,none⟩) hb _).setLow (a:=⟨b,10,none⟩) hb _).setLow (a:=⟨b,11,none⟩) hb _).setLow (a:=⟨b,12,none⟩) hb _).setLow (a:=⟨b,13,none⟩) hb _).setLow (a:=⟨b,14,none⟩) hb _).setLow (a:=⟨b,15,none⟩) hb _).setLow (a:=⟨b,16,none⟩) hb _
def StX (w:World) (B:Nat) (s s':St) (sv ov kv sv' ov' kv':Value):Prop:=(s'=s∧sv'=sv∧ov'=ov∧kv'=kv) ∨ (s'.f=s.f∧RowF w B s'.store sv'∧RowF w B s'.out ov'∧FrFresh w B s'.k.l kv')
theorem StX.refl (w:World) (B:Nat) (s:St) (sv ov kv:Value):StX w B s s sv ov kv sv ov kv:=.inl ⟨rfl,rfl,rfl,rfl⟩
theorem StX.mono {w:World} {B B':Nat} {s s':St} {sv ov kv sv' ov' kv':Value} (h:StX w B s s' sv ov kv sv' ov' kv') (hb:B'≤B):StX w B' s s' sv ov kv sv' ov' kv' :=
 h.imp id fun ⟨h0,h1,h2,h3⟩=>⟨h0,h1.mono hb,h2.mono hb,h3.mono hb⟩
theorem StX.later {w w':World} {B:Nat} {s s':St} {sv ov kv sv' ov' kv':Value} (h:StX w B s s' sv ov kv sv' ov' kv') (hb:Below w.heap.size w w'):StX w' B s s' sv ov kv sv' ov' kv' :=
 h.imp id fun ⟨h0,h1,h2,h3⟩=>⟨h0,h1.later hb,h2.later hb,h3.stays hb⟩
theorem StX.sets {w:World} {B b:Nat} {s s':St} {sv ov kv sv' ov' kv':Value} (h:StX w B s s' sv ov kv sv' ov' kv') (hb:b < B) (vs:List Value):StX (w.setCells b 0 vs) B s s' sv ov kv sv' ov' kv' :=
 h.imp id fun ⟨h0,h1,h2,h3⟩=>⟨h0,h1.sets hb vs 0,h2.sets hb vs 0,h3.sets hb vs 0⟩
theorem StX.lies {w w0:World} {B:Nat} {s s':St} {fv sv ov kv sv' ov' kv':Value} (h:StX w B s s' sv ov kv sv' ov' kv') (h0:StW w0 s fv sv ov kv) (hb:Below w0.heap.size w0 w):StW w s' fv sv' ov' kv':=by
 rcases h with ⟨rfl,rfl,rfl,rfl⟩ | ⟨e,h1,h2,h3⟩
 · exact h0.later hb
 · exact ⟨by rw [e];exact h0.lf.later hb (Nat.le_refl _),h1.row,h2.row,h3.fr⟩
theorem ze4 (s:St) (fv sv ov kv:Value) (x:Itm) (w:World) (hS:StW w s fv sv ov kv) (hx:x.id.size≤maxLen∧x.kd.size≤maxLen) (hf:s.f.size≤1000) (h1:s.store.length≤1000) (h2:s.out.length≤1000)
   (hk1:(zaf (zal s.k x.id s.r (s.count + 1)).l).length≤10000) (hk2:s.k.l.length≤10000) (hk3:(zaf s.k.l).length≤10000) (hc:0≤s.count∧s.count≤1000) (ht:0≤s.clock∧s.clock≤1000000) :
   Calls Tryz.prog 153 #[stV s fv sv ov kv,iV x] w fun e w' =>
     (zbi s=true∧e=.returned (.tuple #[stV s fv sv ov kv,.int .i64 5])∧Below w.heap.size w w') ∨
     (zbi s=false∧∃ sv' ov' kv',e=.returned (.tuple #[stV (zbb s x) fv sv' ov' kv',.int .i64 0])∧StW w' (zbb s x) fv sv' ov' kv'∧(RowF w' w.heap.size (zbb s x).store sv'∧RowF w' w.heap.size (zbb s x).out ov'∧FrFresh w' w.heap.size (zbb s x).k.l kv')∧Below w.heap.size w w'):=by
 have OA:=y32h (((Own.new w (stA s fv sv ov kv) 40).alloc (.cells (iA x) 58)).alloc (.cells stZ.toArray 40))
 have OX:=y32h ((Own.newAt (w.alloc (.cells (stA s fv sv ov kv) 40)) (iA x) 58 (b:=w.heap.size + 1) (by simp)).alloc (.cells stZ.toArray 40))
 have OT:=y32h (Own.newAt ((w.alloc (.cells (stA s fv sv ov kv) 40)).alloc (.cells (iA x) 58)) stZ.toArray 40 (b:=w.heap.size + 1 + 1) (by simp))
 have BEL:=y32h ((((Below.refl w.heap.size w).alloc (Nat.le_refl _) (.cells (stA s fv sv ov kv) 40)).alloc (by simp) (.cells (iA x) 58)).alloc (by simp;omega) (.cells stZ.toArray 40))
 have HW:=y32h hS
 have hfv:fv.oneCell'=true:=zas hS.lf
 have hsv:sv.oneCell'=true:=by obtain ⟨_,_,_,_,e,_⟩:=hS.ls;rw [e];rfl
 have hov:ov.oneCell'=true:=by obtain ⟨_,_,_,_,e,_⟩:=hS.lo;rw [e];rfl
 have hkv:kv.oneCell'=true:=by obtain ⟨_,_,e⟩:=hS.lk.val;rw [e];rfl
 unfold Value.oneCell' at hfv hsv hov hkv
 clear hS
 have lOA:=OA.out.cell
 have zOA:=OA.out.lt
 by_cases hfull:s.count=1000 ∨ s.clock=1000000
 · have E:=y32h (show zbi s=true by
     unfold zbi
     rcases hfull with h | h
     · rw [decide_eq_true h];rfl
     · rw [decide_eq_true h];simp)
   have hways:(s.count == 1000)=true ∨ ((s.count == 1000)=false∧(s.clock == 1000000)=true):=by
     by_cases h:s.count=1000
     · exact .inl (by rw [beq_iff_eq];exact h)
     · refine .inr ⟨by rw [beq_eq_false_iff_ne];exact h,?_⟩
       rw [beq_iff_eq]
       rcases hfull with h' | h'
       · exact absurd h' h
       · exact h'
   have HK:=y32h (And.intro (OT.out.sets (stA s fv sv ov kv).toList (by rfl)) (zaa (b:=w.heap.size + 1 + 1) (by omega) (stA s fv sv ov kv).toList 0 BEL.out))
   have OAR:=y32h OA.out
   have OTR:=y32h OT.out
   clear hfull
   rcases hways with g1 | ⟨g1,g2⟩
   all_goals
     go_enter Tryz.func153,Tryz.ntmps153
     go_wp2_with (first | (refine wpList_load_mid (by rfl) 40 _ (by rfl) w.heap.size 0 (by rfl) (stA s fv sv ov kv).toList _ OAR.out.range Tryz.underlying40 (by rfl) (by kernel_rfl) ?_) | (refine wpList_store_mid (by rfl) 40 _ _ (by rfl) (w.heap.size + 1 + 1) 0 (stA s fv sv ov kv) (by rfl) (by rfl) (OTR.out.there (by rfl)) (by kernel_rfl) (by simp [Value.oneCell',hfv,hsv,hov,hkv]) ?_) | fail)
     revert HK
     generalize World.setCells _ _ _ _=WW
     intro HK
     refine zab (by rfl) (by rfl) (by rfl) HK.out.1.range Tryz.underlying40 (by rfl) (by kernel_rfl) rfl (.inl ⟨E.out,rfl,HK.out.2⟩)
 · have E:=y32h (show zbi s=false by
     unfold zbi
     rw [decide_eq_false (fun h=>hfull (.inl h)),decide_eq_false (fun h=>hfull (.inr h))];rfl)
   have g1:(s.count == 1000)=false:=by rw [beq_eq_false_iff_ne];exact fun h=>hfull (.inl h)
   have g2:(s.clock == 1000000)=false:=by rw [beq_eq_false_iff_ne];exact fun h=>hfull (.inr h)
   have hc0:=hc.1
   have hc1:=hc.2
   have ht0:=ht.1
   have ht1:=ht.2
   clear hfull hc ht OA OX OT BEL lOA zOA
   have OA:=y32h (((Own.new w (stA (cntS s) fv sv ov kv) 40).alloc (.cells (iA (zak s x)) 58)).alloc (.cells stZ.toArray 40))
   have OX:=y32h ((Own.newAt (w.alloc (.cells (stA (cntS s) fv sv ov kv) 40)) (iA (zak s x)) 58 (b:=w.heap.size + 1) (by simp)).alloc (.cells stZ.toArray 40))
   have OT:=y32h (Own.newAt ((w.alloc (.cells (stA (cntS s) fv sv ov kv) 40)).alloc (.cells (iA (zak s x)) 58)) stZ.toArray 40 (b:=w.heap.size + 1 + 1) (by simp))
   have BEL:=y32h ((((Below.refl w.heap.size w).alloc (Nat.le_refl _) (.cells (stA (cntS s) fv sv ov kv) 40)).alloc (by simp) (.cells (iA (zak s x)) 58)).alloc (by simp;omega) (.cells stZ.toArray 40))
   have CO:=y32h (show Calls Tryz.prog 208 #[knV s.k.star kv,.string x.id,.agg #[.int .i64 s.r,.int .i64 (s.count + 1)]] (((w.alloc (.cells (stA (cntS s) fv sv ov kv) 40)).alloc (.cells (iA (zak s x)) 58)).alloc (.cells stZ.toArray 40)) (fun e w'=>∃ v',e=.returned (knV (ownK s.k x.id s.r (s.count + 1)).star v')∧FrFresh w' (((w.alloc (.cells (stA (cntS s) fv sv ov kv) 40)).alloc (.cells (iA (zak s x)) 58)).alloc (.cells stZ.toArray 40)).heap.size (zah (ownK s.k x.id s.r (s.count + 1))).l v'∧Below (((w.alloc (.cells (stA (cntS s) fv sv ov kv) 40)).alloc (.cells (iA (zak s x)) 58)).alloc (.cells stZ.toArray 40)).heap.size (((w.alloc (.cells (stA (cntS s) fv sv ov kv) 40)).alloc (.cells (iA (zak s x)) 58)).alloc (.cells stZ.toArray 40)) w') from znh s.k x.id s.r (s.count + 1) kv (((w.alloc (.cells (stA (cntS s) fv sv ov kv) 40)).alloc (.cells (iA (zak s x)) 58)).alloc (.cells stZ.toArray 40)) (HW.out.lk.later BEL.out (Nat.le_refl _)) hx.1 hk1 hk2 hk3 (by omega))
   go_enter Tryz.func153,Tryz.ntmps153
   go_upto_region 8 with (first | (go_at_call 208;refine CO.out.mono ?_;rintro e w3 ⟨v3,rfl,hfr,hb⟩;obtain ⟨o3,c3,rfl⟩:=hfr.fr.val;have zW2:=y32h OA.out.lt;have HFR:=y32h hfr;replace OA:=y32h (OA.out.later hb);replace OX:=y32h (OX.out.later hb);replace OT:=y32h (OT.out.later hb);replace BEL:=y32h (BEL.out.trans (hb.mono BEL.out.size));clear hb hfr;have lOA:=OA.out.cell;have zOA:=OA.out.lt;have fOA:=OA.out.free;have lOX:=OX.out.cell;have zOX:=OX.out.lt;generalize hn3:(zah (ownK s.k x.id s.r (s.count + 1))).l.length=n3 at *) | fail)
   clear lOA zOA fOA lOX zOX CO
   have HP:=And.intro (z0p OA.out x (.slice o3 n3 c3)) (And.intro (ztf OX.out (show w.heap.size + 1 ≠ w.heap.size by omega) (.int .i64 ((ownK s.k x.id s.r (s.count + 1)).star 0)) (.int .i64 ((ownK s.k x.id s.r (s.count + 1)).star 1)) (.int .i64 ((ownK s.k x.id s.r (s.count + 1)).star 2)) (.int .i64 ((ownK s.k x.id s.r (s.count + 1)).star 3)) (.int .i64 ((ownK s.k x.id s.r (s.count + 1)).star 4)) (.int .i64 ((ownK s.k x.id s.r (s.count + 1)).star 5)) (.int .i64 ((ownK s.k x.id s.r (s.count + 1)).star 6)) (.int .i64 ((ownK s.k x.id s.r (s.count + 1)).star 7)) (.slice o3 n3 c3)) (And.intro (ztf OT.out (show w.heap.size + 1 + 1 ≠ w.heap.size by omega) (.int .i64 ((ownK s.k x.id s.r (s.count + 1)).star 0)) (.int .i64 ((ownK s.k x.id s.r (s.count + 1)).star 1)) (.int .i64 ((ownK s.k x.id s.r (s.count + 1)).star 2)) (.int .i64 ((ownK s.k x.id s.r (s.count + 1)).star 3)) (.int .i64 ((ownK s.k x.id s.r (s.count + 1)).star 4)) (.int .i64 ((ownK s.k x.id s.r (s.count + 1)).star 5)) (.int .i64 ((ownK s.k x.id s.r (s.count + 1)).star 6)) (.int .i64 ((ownK s.k x.id s.r (s.count + 1)).star 7)) (.slice o3 n3 c3)) (And.intro (znt BEL.out (Nat.le_refl _) (.int .i64 ((ownK s.k x.id s.r (s.count + 1)).star 0)) (.int .i64 ((ownK s.k x.id s.r (s.count + 1)).star 1)) (.int .i64 ((ownK s.k x.id s.r (s.count + 1)).star 2)) (.int .i64 ((ownK s.k x.id s.r (s.count + 1)).star 3)) (.int .i64 ((ownK s.k x.id s.r (s.count + 1)).star 4)) (.int .i64 ((ownK s.k x.id s.r (s.count + 1)).star 5)) (.int .i64 ((ownK s.k x.id s.r (s.count + 1)).star 6)) (.int .i64 ((ownK s.k x.id s.r (s.count + 1)).star 7)) (.slice o3 n3 c3)) (zn9 HFR.out zW2.out (.int .i64 ((ownK s.k x.id s.r (s.count + 1)).star 0)) (.int .i64 ((ownK s.k x.id s.r (s.count + 1)).star 1)) (.int .i64 ((ownK s.k x.id s.r (s.count + 1)).star 2)) (.int .i64 ((ownK s.k x.id s.r (s.count + 1)).star 3)) (.int .i64 ((ownK s.k x.id s.r (s.count + 1)).star 4)) (.int .i64 ((ownK s.k x.id s.r (s.count + 1)).star 5)) (.int .i64 ((ownK s.k x.id s.r (s.count + 1)).star 6)) (.int .i64 ((ownK s.k x.id s.r (s.count + 1)).star 7)) (.slice o3 n3 c3)))))
   clear OA OX OT BEL HFR zW2
   unfold zhe at HP
   revert HP
   generalize World.setCell (World.setCell (World.setCell (World.setCell (World.setCell (World.setCell (World.setCell (World.setCell (World.setCell _ _ _) _ _) _ _) _ _) _ _) _ _) _ _) _ _) _ _=W4
   intro HP
   have OA:=y32h HP.1
   have OX:=y32h HP.2.1
   have OT:=y32h HP.2.2.1
   have BEL:=y32h HP.2.2.2.1
   have LKF:=y32h HP.2.2.2.2
   clear HP
   have L:=y32h (show Calls Tryz.prog 71 #[stV (preS s x) fv sv ov (.slice o3 n3 c3),iV (zak s x),.bool true] W4 (fun e w'=>∃ sv' ov',e=.returned (stV (zbb s x) fv sv' ov' (.slice o3 n3 c3))∧(StW w' (zbb s x) fv sv' ov' (.slice o3 n3 c3)∧RowF w' W4.heap.size (zam (preS s x) (zak s x)) sv'∧RowF w' W4.heap.size (laidOut (preS s x) (zak s x) true) ov')∧Below W4.heap.size W4 w') from ze3 (preS s x) fv sv ov (.slice o3 n3 c3) (zak s x) true W4 ⟨HW.out.lf.later BEL.out (Nat.le_refl _),HW.out.ls.later BEL.out,HW.out.lo.later BEL.out,LKF.out.fr⟩ hx hf h1 h2)
   have OAR:=y32h OA.out
   have lOX:=OX.out.cell
   have zOX:=OX.out.lt
   have zW4:=y32h OT.out.lt
   clear hx hf h1 h2 hk1 hk2 hk3
   go_wp2_with (first | (refine wpList_load_mid (by rfl) 40 _ (by rfl) w.heap.size 0 (by rfl) (stA (preS s x) fv sv ov (.slice o3 n3 c3)).toList _ OAR.out.range Tryz.underlying40 (by rfl) (by kernel_rfl) ?_) | (go_at_call 71;refine L.out.mono ?_;rintro e w5 ⟨sv',ov',rfl,⟨hst,hrs,hro⟩,hb⟩;have hsv2:sv'.oneCell'=true:=(by obtain ⟨_,_,_,_,e,_⟩:=hrs;rw [e];rfl);have hov2:ov'.oneCell'=true:=(by obtain ⟨_,_,_,_,e,_⟩:=hro;rw [e];rfl);unfold Value.oneCell' at hsv2 hov2;have HST:=y32h hst;have HRS:=y32h hrs;have HRO:=y32h hro;have OTR:=y32h (OT.out.later hb);have BE5:=y32h (BEL.out.trans (hb.mono BEL.out.size));have LK5:=y32h (LKF.out.stays hb);clear hst hrs hro hb lOX zOX) | (refine wpList_store_mid (by rfl) 40 _ _ (by rfl) (w.heap.size + 1 + 1) 0 (stA (zbb s x) fv sv' ov' (.slice o3 n3 c3)) (by rfl) (by rfl) (OTR.out.there (by rfl)) (by kernel_rfl) (by simp [Value.oneCell',hfv,hsv2,hov2]) ?_) | fail)
   have HK:=y32h (And.intro (OTR.out.sets (stA (zbb s x) fv sv' ov' (.slice o3 n3 c3)).toList (by rfl)) (And.intro (zaa (b:=w.heap.size + 1 + 1) (by omega) (stA (zbb s x) fv sv' ov' (.slice o3 n3 c3)).toList 0 BE5.out) (And.intro (RowF.sets (b:=w.heap.size + 1 + 1) zW4.out (stA (zbb s x) fv sv' ov' (.slice o3 n3 c3)).toList 0 HRS.out) (And.intro (RowF.sets (b:=w.heap.size + 1 + 1) zW4.out (stA (zbb s x) fv sv' ov' (.slice o3 n3 c3)).toList 0 HRO.out) (FrFresh.sets (b:=w.heap.size + 1 + 1) (by simp) (stA (zbb s x) fv sv' ov' (.slice o3 n3 c3)).toList 0 LK5.out)))))
   clear OTR BE5 HRS HRO LK5 HST
   revert HK
   generalize World.setCells _ _ _ _=WW
   intro HK
   have hle:w.heap.size≤W4.heap.size:=by have:=zW4.out;omega
   refine zab (by rfl) (by rfl) (by rfl) HK.out.1.range Tryz.underlying40 (by rfl) (by kernel_rfl) rfl (.inr ⟨E.out,sv',ov',.slice o3 n3 c3,rfl,⟨HW.out.lf.later HK.out.2.1 (Nat.le_refl _),HK.out.2.2.1.row,HK.out.2.2.2.1.row,HK.out.2.2.2.2.fr⟩,⟨HK.out.2.2.1.mono hle,HK.out.2.2.2.1.mono hle,HK.out.2.2.2.2.mono (by simp;omega)⟩,HK.out.2.1⟩)
theorem z1n {F:ByteArray→Nat→Int} (ids:List ByteArray):∀ {o:List Fr} {f:Fr},f∈ids.foldl (zaw F) o→(∃ x∈ids,f.v=F x) ∨ ∃ g∈o,f.v=g.v:=by
 induction ids with
 | nil=>intro o f h;exact .inr ⟨f,h,rfl⟩
 | cons a l ih =>
   intro o f h
   rw [List.foldl_cons] at h
   rcases ih h with ⟨x,hx,e⟩ | ⟨g,hg,e⟩
   · exact .inl ⟨x,by simp [hx],e⟩
   · unfold zaw at hg
     split at hg
     · exact .inr ⟨g,hg,e⟩
     · rcases zfm hg with hg | hg | ⟨g',hg',_,hg⟩
       · exact .inr ⟨g,hg,e⟩
       · exact .inl ⟨a,by simp,by rw [e,hg]⟩
       · exact .inr ⟨g',hg',by rw [e,hg]⟩
theorem z1m {F:ByteArray→Nat→Int} (ids:List ByteArray):∀ {o:List Fr} {x:ByteArray},(∃ f∈ids.foldl (zaw F) o,x∈f.ids)→x∈ids ∨ ∃ f∈o,x∈f.ids:=by
 induction ids with
 | nil=>intro o x h;exact .inr h
 | cons a l ih =>
   intro o x h
   rw [List.foldl_cons] at h
   rcases ih h with h | h
   · exact .inl (by simp [h])
   · unfold zaw at h
     split at h
     · exact .inr h
     · rcases zq4 h with h | h
       · exact .inl (by simp [h])
       · exact .inr h
theorem zq2 {k:Kn} {f:Fr} (h:f∈(zah k).l):∃ x,f.v=beyB k x:=by
 rcases z1n (zbf k) h with ⟨x,_,e⟩ | ⟨g,hg,_⟩
 · exact ⟨x,e⟩
 · simp at hg
theorem zq0 {k:Kn} {f:Fr} {x:ByteArray} (h:f∈(zah k).l) (hx:x∈f.ids):∃ g∈k.l,x∈g.ids:=by
 rcases z1m (zbf k) ⟨f,h,hx⟩ with h | ⟨g,hg,_⟩
 · exact mem_names.1 h
 · simp at hg
theorem zs2 {k:Kn} {j:Nat} {n:Int} (h0:0≤n) (h:∀ f∈k.l,f.v j≤n) (x:ByteArray):beyB k x j≤n:=by
 unfold beyB
 split
 · split
   · exact h0
   · rcases zfo k.l x j with e | ⟨f,hf,_,e⟩
     · omega
     · rw [e];exact h f hf
 · exact h0
theorem mayFr_iff {nm:ByteArray→Bool} {f:Fr}:zk0 nm f=true ↔ (∀ j,j < 8→0≤f.v j∧f.v j≤1000)∧∀ x∈f.ids,nm x=true:=by
 unfold zk0
 rw [Bool.and_eq_true,zot,List.all_eq_true]
theorem zgz {nm:ByteArray→Bool} {k:Kn}:mayK nm k=true ↔ (zc8 k (zah k)=true∧∀ j,j < 8→0≤k.star j∧k.star j≤1000)∧∀ f∈k.l,zk0 nm f=true:=by
 unfold mayK
 rw [Bool.and_eq_true,Bool.and_eq_true,zot,List.all_eq_true]
theorem zk1 {nm:ByteArray→Bool} {k:Kn} (hs:∀ j,j < 8→0≤k.star j∧k.star j≤1000) (hl:∀ f∈k.l,zk0 nm f=true):mayK nm (zah k)=true:=by
 rw [zgz]
 refine ⟨⟨znq (zek _) (zq1 (zhz k)).symm,hs⟩,fun f hf=>?_⟩
 rw [mayFr_iff]
 obtain ⟨y,e⟩:=zq2 hf
 refine ⟨fun j hj=>?_,fun x hx=>?_⟩
 · rw [e]
   exact ⟨zkf k y j,zs2 (by decide) (fun g hg=>((mayFr_iff.1 (hl g hg)).1 j hj).2) y⟩
 · obtain ⟨g,hg,hm⟩:=zq0 hf hx
   exact (mayFr_iff.1 (hl g hg)).2 x hm
theorem zpl (r c:Int) (hc:0≤c) (j:Nat):0≤zav zad r c j∧zav zad r c j≤c:=by
 unfold zav zad
 split <;> omega
theorem zfz {k:Kn} {id:ByteArray} {r c:Int} (h:mayK zbd k=true) (hid:zbd id=true) (hc:0≤c∧c≤1000):mayK zbd (zah (zal k id r c))=true:=by
 rw [zgz] at h
 refine zk1 h.1.2 fun f hf=>?_
 rcases List.mem_append.1 hf with hf | hf
 · exact h.2 f hf
 · simp at hf;subst hf
   rw [mayFr_iff]
   exact ⟨fun j _=>⟨(zpl r c hc.1 j).1,Int.le_trans (zpl r c hc.1 j).2 hc.2⟩,fun x hx=>by simp at hx;rw [hx];exact hid⟩
theorem zwd {k:Kn} {id:ByteArray} {r c:Int} (h:mayK zbd k=true) (hid:zbd id=true) (hc:0≤c∧c≤1000):mayK zbd (zah (ownK k id r c))=true:=by
 unfold ownK
 split
 · exact zfz h hid hc
 · rw [zgz] at h
   refine zk1 (fun j hj=>?_) h.2
   have:=h.1.2 j hj
   show 0≤zav k.star r c j∧zav k.star r c j≤1000
   unfold zav
   split <;> omega
theorem zd3 {k:Kn} {r n:Int}:beyS k r n=false ↔ cntV k.star r≤n∧∀ f∈k.l,cntV f.v r≤n:=by
 unfold beyS
 rw [Bool.or_eq_false_iff,List.any_eq_false]
 simp only [decide_eq_true_eq,decide_eq_false_iff_not]
 constructor
 · rintro ⟨h1,h2⟩;exact ⟨by omega,fun f hf=>by have:=h2 f hf;omega⟩
 · rintro ⟨h1,h2⟩;exact ⟨by omega,fun f hf=>by have:=h2 f hf;omega⟩
theorem zgd {A:Nat→Int} {r n:Int} (h0:0≤n) (h:1≤r∧r≤8→A (r - 1).toNat≤n):cntV A r≤n:=by
 unfold cntV
 split
 · rename_i hr;exact h hr
 · exact h0
theorem zs6 {A:Nat→Int} {r n:Int} (h:cntV A r≤n) (hr:1≤r∧r≤8):A (r - 1).toNat≤n:=by
 unfold cntV at h
 rwa [if_pos hr] at h
theorem ze6 {k:Kn} {r n:Int} (h0:0≤n) (h:beyS k r n=false):beyS (zah k) r n=false:=by
 rw [zd3] at h ⊢
 refine ⟨h.1,fun f hf=>zgd h0 fun hr=>?_⟩
 obtain ⟨x,e⟩:=zq2 hf
 rw [e]
 exact zs2 h0 (fun g hg=>zs6 (h.2 g hg) hr) x
theorem zs1 {k:Kn} {r n m:Int} (h:beyS k r n=false) (hm:n≤m):beyS k r m=false:=by
 rw [zd3] at h ⊢
 exact ⟨by omega,fun f hf=>by have:=h.2 f hf;omega⟩
theorem zfs {k:Kn} {id:ByteArray} {r r' c n:Int} (h0:0≤n) (h:beyS k r n=false) (hc:r'=r→c≤n) (hc0:0≤c) (hr':1≤r'∧r'≤8):beyS (zal k id r' c) r n=false:=by
 rw [zd3] at h ⊢
 refine ⟨h.1,fun f hf=>?_⟩
 rcases List.mem_append.1 hf with hf | hf
 · exact h.2 f hf
 · simp at hf;subst hf
   refine zgd h0 fun hr=>?_
   show zav zad r' c (r - 1).toNat≤n
   unfold zav zad
   split
   · rename_i h2
     exact hc (by omega)
   · exact h0
theorem zvj {k:Kn} {id:ByteArray} {r n:Int} (h0:0≤n) (h:beyS k r n=false) (hr:1≤r∧r≤8):beyS (ownK k id r (n + 1)) r (n + 1)=false:=by
 unfold ownK
 split
 · exact zfs (by omega) (zs1 h (by omega)) (fun _=>Int.le_refl _) (by omega) hr
 · rw [zd3] at h ⊢
   refine ⟨zgd (by omega) fun hr=>?_,fun f hf=>by have:=h.2 f hf;omega⟩
   have:=zs6 h.1 hr
   show zav k.star r (n + 1) (r - 1).toNat≤n + 1
   unfold zav
   split <;> omega
theorem zmk {k:Kn} {id:ByteArray} {r c n:Int} (h:hasK k id r c=true) (hb:beyS k r n=false):c≤n:=by
 rw [zd3] at hb
 unfold hasK at h
 rw [Bool.or_eq_true] at h
 rcases h with h | h
 · unfold hasV at h
   rw [Bool.and_eq_true,decide_eq_true_eq,decide_eq_true_eq] at h
   omega
 · rw [List.any_eq_true] at h
   obtain ⟨f,hf,h⟩:=h
   unfold zdb hasV at h
   rw [Bool.and_eq_true,Bool.and_eq_true,decide_eq_true_eq,decide_eq_true_eq] at h
   have:=hb.2 f hf
   omega
structure Stood (s:St) (want:Bool) (i:Itm):Prop where
 has:hasT s.f i=want
 knows:hasK s.k i.id i.r i.c=true
 stamp:i.st≤s.clock
structure Good (s:St):Prop where
 f:Pr.mayB s.f=true
 st:zdc s.store=true
 ou:zdc s.out=true
 k:mayK zbd s.k=true
 r:1≤s.r∧s.r≤8
 n:s.store.length + s.out.length≤40
 c:0≤s.count∧s.count≤1000
 t:0≤s.clock∧s.clock≤1000000
 e:0≤s.epoch∧s.epoch≤1000000
 tw:∀ i∈s.out,∀ j∈s.store,j.id ≠ i.id
 si:∀ i∈s.store,Stood s true i
 so:∀ i∈s.out,Stood s false i
 b:beyS s.k s.r s.count=false
theorem zit {n a b:Int}:inB n a b=true ↔ a≤n∧n≤b:=by
 unfold inB;rw [Bool.and_eq_true,decide_eq_true_eq,decide_eq_true_eq]
theorem get_is {l:List Itm} {id:ByteArray}:(getI l id).2=true ↔ ∃ i∈l,i.id=id:=by
 rcases zco l id with ⟨i,hi,e,h⟩ | ⟨h,h'⟩
 · rw [h];exact ⟨fun _=>⟨i,hi,e⟩,fun _=>rfl⟩
 · rw [h'];exact ⟨fun q=>by simp at q,fun ⟨i,hi,e⟩=>absurd e (h i hi)⟩
theorem Good.rs {s:St} (h:Good s):zap s.store:=(mayLB_iff.1 h.st).2
theorem Good.ro {s:St} (h:Good s):zap s.out:=(mayLB_iff.1 h.ou).2
theorem ze0 {s:St} (h:Good s) (id:ByteArray):(∃ i∈s.store,i.id=id∧zae s id=(i,true)) ∨ (∃ i∈s.out,i.id=id∧zae s id=(i,true)) ∨ ((∀ i∈s.store,i.id ≠ id)∧(∀ i∈s.out,i.id ≠ id)∧zae s id=(Itm.zero,false)):=by
 unfold zae
 rw [zjx s.out id h.rs h.ro]
 rcases zco s.out id with ⟨i,hi,e,hg⟩ | ⟨hn,hg⟩
 · have hs:getI s.store id=(Itm.zero,false):=zc0 fun j hj e'=>h.tw i hi j hj (e'.trans e.symm)
   rw [hg,hs]
   exact .inr (.inl ⟨i,hi,e,by simp⟩)
 · rw [hg]
   rcases zco s.store id with ⟨j,hj,e,hg'⟩ | ⟨hn',hg'⟩
   · rw [hg'];exact .inl ⟨j,hj,e,by simp⟩
   · rw [hg'];exact .inr (.inr ⟨hn',hn,by simp⟩)
theorem zlh {s:St} (h:Good s) {id:ByteArray} (hs:(zae s id).2=true):mayT (zae s id).1=true∧(zae s id).1.id=id:=by
 rcases ze0 h id with ⟨i,hi,e,hq⟩ | ⟨i,hi,e,hq⟩ | ⟨_,_,hq⟩
 · rw [hq];exact ⟨(mayLB_iff.1 h.st).1 i hi,e⟩
 · rw [hq];exact ⟨(mayLB_iff.1 h.ou).1 i hi,e⟩
 · rw [hq] at hs;cases hs
theorem zis {l:List Itm} {id:ByteArray} (h:∃ i∈l,i.id=id):(l.filter (neB id)).length + 1≤l.length:=by
 obtain ⟨i,hi,e⟩:=h
 have:(l.filter (neB id)).length < l.length:=by
   rw [List.length_filter_lt_length_iff_exists]
   exact ⟨i,hi,by unfold neB;rw [tl_eq.2 e];simp⟩
 omega
theorem zdn (l:List Itm) (id:ByteArray):(l.filter (neB id)).length≤l.length:=List.length_filter_le _ _
theorem mayT_iff {i:Itm}:mayT i=true ↔ zbd i.id=true∧txtB i.kd=true∧(1≤i.r∧i.r≤8)∧(1≤i.c∧i.c≤1000)∧(1≤i.st∧i.st≤1000000)∧(inB i.num (-1000000) 1000000=true)∧mayB i.x i.y=true:=by
 unfold mayT mayI verB
 simp only [Bool.and_eq_true,zit]
 constructor
 · rintro ⟨h1,h2,⟨h3,h4⟩,h5,h6,h7⟩;exact ⟨h1,h2,h3,h4,h5,h6,h7⟩
 · rintro ⟨h1,h2,h3,h4,h5,h6,h7⟩;exact ⟨h1,h2,⟨h3,h4⟩,h5,h6,h7⟩
theorem zoa {s:St} (h:Good s) (hf:zbi s=false):s.count + 1≤1000∧s.clock + 1≤1000000:=by
 unfold zbi at hf
 rw [Bool.or_eq_false_iff,decide_eq_false_iff_not,decide_eq_false_iff_not] at hf
 have:=h.c
 have:=h.t
 omega
theorem zic {s:St} {x:Itm} (h:Good s) (hx:mayT (zak s x)=true) (hf:zbi s=false) (hroom:(zae s x.id).2=true ∨ s.store.length + s.out.length < 40):Good (zbb s x):=by
 obtain ⟨hc1,ht1⟩:=zoa h hf
 have hc:=h.c
 have ht:=h.t
 have hid:=(mayT_iff.1 hx).1
 have kk:∀ i:Itm,hasK s.k i.id i.r i.c=true→hasK (zah (ownK s.k x.id s.r (s.count + 1))) i.id i.r i.c=true:=fun i hi=>zqz _ _ _ _ _ _ _ (zhi _ _ _ _ _ _ _ hi)
 have kx:hasK (zah (ownK s.k x.id s.r (s.count + 1))) x.id s.r (s.count + 1)=true:=zqz _ _ _ _ _ _ _ (zhh _ _ h.r.1 h.r.2 (by omega))
 have sx:∀ w,hasT s.f x=w→Stood (zbb s x) w (zak s x):=fun w hw=>⟨hw,kx,Int.le_refl _⟩
 have so:∀ w i,Stood s w i→Stood (zbb s x) w i:=fun w i hi=>⟨hi.has,kk i hi.knows,by have:=hi.stamp;show i.st≤s.clock + 1;omega⟩
 have ms:∀ i∈(zbb s x).store,(i∈s.store∧i.id ≠ x.id) ∨ (i=zak s x∧hasT s.f x=true):=fun i hi=>by
   change i∈zam (preS s x) (zak s x) at hi
   unfold zam at hi
   split at hi
   · rename_i hh
     rcases mem_put.1 hi with e | ⟨e,_⟩
     · exact .inr ⟨e,hh⟩
     · exact .inl (mem_drop.1 e)
   · exact .inl (mem_drop.1 hi)
 have mo:∀ i∈(zbb s x).out,(i∈s.out∧i.id ≠ x.id) ∨ (i=zak s x∧hasT s.f x=false):=fun i hi=>by
   change i∈laidOut (preS s x) (zak s x) true at hi
   unfold laidOut at hi
   split at hi
   · exact .inl (mem_drop.1 hi)
   · rename_i hh
     rw [if_pos rfl] at hi
     rcases mem_put.1 hi with e | ⟨e,_⟩
     · exact .inr ⟨e,Bool.eq_false_iff.2 hh⟩
     · exact .inl (mem_drop.1 e)
 refine ⟨h.f,?_,?_,zwd h.k hid (by omega),h.r,?_,by show 0≤s.count + 1∧s.count + 1≤1000;omega,by show 0≤s.clock + 1∧s.clock + 1≤1000000;omega,h.e,fun i hi j hj=>?_,fun i hi=>?_,fun i hi=>?_,?_⟩
 · show zdc (zam (preS s x) (zak s x))=true
   unfold zam
   split
   · exact zlw (zcv h.st) hx
   · exact zcv h.st
 · show zdc (laidOut (preS s x) (zak s x) true)=true
   unfold laidOut
   split
   · exact zcv h.ou
   · rw [if_pos rfl];exact zlw (zcv h.ou) hx
 · show (zam (preS s x) (zak s x)).length + (laidOut (preS s x) (zak s x) true).length≤40
   have hn:=h.n
   have f1:=zdn s.store x.id
   have f2:=zdn s.out x.id
   have p1:=zc1 (s.store.filter (neB x.id)) (zak s x)
   have p2:=zc1 (s.out.filter (neB x.id)) (zak s x)
   have hd:(s.store.filter (neB x.id)).length + (s.out.filter (neB x.id)).length + 1≤40:=by
     rcases ze0 h x.id with ⟨i,hi,e,hq⟩ | ⟨i,hi,e,hq⟩ | ⟨_,_,hq⟩
     · have:=zis ⟨i,hi,e⟩;omega
     · have:=zis ⟨i,hi,e⟩;omega
     · rcases hroom with hr | hr
       · rw [hq] at hr;cases hr
       · omega
   unfold zam laidOut
   simp only [if_pos]
   cases hasT (preS s x).f (zak s x) with
   | true=>simp only [if_true];show (putI (s.store.filter (neB x.id)) (zak s x)).length + (s.out.filter (neB x.id)).length≤40;omega
   | false=>simp only [Bool.false_eq_true,if_false];show (s.store.filter (neB x.id)).length + (putI (s.out.filter (neB x.id)) (zak s x)).length≤40;omega
 · rcases mo i hi with ⟨a1,a2⟩ | ⟨a1,a2⟩
   · rcases ms j hj with ⟨b1,b2⟩ | ⟨b1,b2⟩
     · exact h.tw i a1 j b1
     · rw [b1];exact fun e=>a2 e.symm
   · rcases ms j hj with ⟨b1,b2⟩ | ⟨b1,b2⟩
     · rw [a1];exact b2
     · rw [a2] at b2;cases b2
 · rcases ms i hi with ⟨a1,_⟩ | ⟨a1,a2⟩
   · exact so _ i (h.si i a1)
   · rw [a1];exact sx _ a2
 · rcases mo i hi with ⟨a1,_⟩ | ⟨a1,a2⟩
   · exact so _ i (h.so i a1)
   · rw [a1];exact sx _ a2
 · exact ze6 (by show 0≤s.count + 1;omega) (zvj hc.1 h.b h.r)
def LPF (w:World) (B:Nat) (p:Pr) (v:Value):Prop:=Lies 5 pc (fun b=>B≤b∧b < w.heap.size) w p v
theorem LPF.lp {w:World} {B:Nat} {p:Pr} {v:Value} (h:LPF w B p v):LP w p v:=h.mono (fun _ _ _=>rfl) fun _ h=>h.2
theorem LPF.later {w w':World} {B:Nat} {p:Pr} {v:Value} (h:LPF w B p v) (hb:Below w.heap.size w w'):LPF w' B p v :=
 h.mono (fun b o hS=>hb.cell (p:=⟨b,o,none⟩) hS.2) fun _ hS=>⟨hS.1,Nat.lt_of_lt_of_le hS.2 hb.size⟩
theorem LPF.mono' {w:World} {B B':Nat} {p:Pr} {v:Value} (h:LPF w B p v) (hb:B'≤B):LPF w B' p v:=h.mono (fun _ _ _=>rfl) fun _ h=>⟨Nat.le_trans hb h.1,h.2⟩
theorem LPF.sets {w:World} {B b:Nat} {p:Pr} {v:Value} (h:LPF w B p v) (hb:b < B) (vs:List Value):LPF (w.setCells b 0 vs) B p v :=
 h.mono (fun b' o hS=>World.cell?_setCells_out b vs 0 w ⟨b',o,none⟩ (fun e _=>by have:=hS.1;simp only at e;omega)) fun _ hS=>⟨hS.1,Nat.lt_of_lt_of_le hS.2 (zaa (B:=b) (Nat.le_refl _) vs 0 (Below.refl b w)).size⟩
structure StN (w:World) (B:Nat) (p:Pr) (pv:Value) (l:List Itm) (sv:Value) (m:List Itm) (ov:Value) (k:List Fr) (kv:Value) (U:St) (fv' sv' ov' kv':Value):Prop where
 f:(U.f=p∧fv'=pv) ∨ LPF w B U.f fv'
 st:(U.store=l∧sv'=sv) ∨ RowF w B U.store sv'
 ou:(U.out=m∧ov'=ov) ∨ RowF w B U.out ov'
 k:(U.k.l=k∧kv'=kv) ∨ FrFresh w B U.k.l kv'
section
variable {w:World} {B:Nat} {p:Pr} {pv:Value} {l:List Itm} {sv:Value} {m:List Itm} {ov:Value} {k:List Fr} {kv:Value} {U:St} {fv' sv' ov' kv':Value}
theorem StN.later {w':World} (h:StN w B p pv l sv m ov k kv U fv' sv' ov' kv') (hb:Below w.heap.size w w'):StN w' B p pv l sv m ov k kv U fv' sv' ov' kv' :=
 ⟨h.f.imp id fun h=>h.later hb,h.st.imp id fun h=>h.later hb,h.ou.imp id fun h=>h.later hb,h.k.imp id fun h=>h.stays hb⟩
theorem StN.mono {B':Nat} (h:StN w B p pv l sv m ov k kv U fv' sv' ov' kv') (hb:B'≤B):StN w B' p pv l sv m ov k kv U fv' sv' ov' kv' :=
 ⟨h.f.imp id fun h=>h.mono' hb,h.st.imp id fun h=>h.mono hb,h.ou.imp id fun h=>h.mono hb,h.k.imp id fun h=>h.mono hb⟩
theorem StN.sets {b:Nat} (h:StN w B p pv l sv m ov k kv U fv' sv' ov' kv') (hb:b < B) (vs:List Value):StN (w.setCells b 0 vs) B p pv l sv m ov k kv U fv' sv' ov' kv' :=
 ⟨h.f.imp id fun h=>h.sets hb vs,h.st.imp id fun h=>h.sets hb vs 0,h.ou.imp id fun h=>h.sets hb vs 0,h.k.imp id fun h=>h.sets hb vs 0⟩
theorem StN.lies {w0:World} (h:StN w B p pv l sv m ov k kv U fv' sv' ov' kv') (hp:LP w0 p pv) (hl:Row 8 ic w0 l sv) (hm:Row 8 ic w0 m ov) (hk:FrW w0 k kv) (hb:Below w0.heap.size w0 w):StW w U fv' sv' ov' kv':=by
 obtain ⟨h1,h2,h3,h4⟩:=h
 refine ⟨?_,?_,?_,?_⟩
 · rcases h1 with ⟨e,rfl⟩ | h1
   · rw [e];exact hp.later hb (Nat.le_refl _)
   · exact h1.lp
 · rcases h2 with ⟨e,rfl⟩ | h2
   · rw [e];exact hl.later hb
   · exact h2.row
 · rcases h3 with ⟨e,rfl⟩ | h3
   · rw [e];exact hm.later hb
   · exact h3.row
 · rcases h4 with ⟨e,rfl⟩ | h4
   · rw [e];exact hk.later hb (Nat.le_refl _)
   · exact h4.fr
theorem StX.n {s:St} {fv:Value} (h:StX w B s U sv ov kv sv' ov' kv'):StN w B s.f fv s.store sv s.out ov s.k.l kv U fv sv' ov' kv':=by
 rcases h with ⟨rfl,rfl,rfl,rfl⟩ | ⟨e,h1,h2,h3⟩
 · exact ⟨.inl ⟨rfl,rfl⟩,.inl ⟨rfl,rfl⟩,.inl ⟨rfl,rfl⟩,.inl ⟨rfl,rfl⟩⟩
 · exact ⟨.inl ⟨e,rfl⟩,.inr h1,.inr h2,.inr h3⟩
end
def Told (c:Int→Value) (p:Pr) (pv:Value) (s:St) (sv ov kv:Value) (U:St) (E:Int) (w:World) (e:Ending) (w':World):Prop :=
 ∃ fv' sv' ov' kv',e=.returned (.tuple #[stV U fv' sv' ov' kv',c E])∧StN w' w.heap.size p pv s.store sv s.out ov s.k.l kv U fv' sv' ov' kv'∧Below w.heap.size w w'
def zxv (c:Int→Value) (p:Pr) (pv:Value) (q:Pr) (qv:Value) (s:St) (sv ov kv:Value) (U:St) (E:Int) (w:World) (e:Ending) (w':World):Prop :=
 Told c p pv s sv ov kv U E w e w' ∨ Told c q qv s sv ov kv U E w e w'
def numI (n:Int):Value:=.int .i64 n
end Go.Proofs.YtodfhabkdaiopaaGreat
