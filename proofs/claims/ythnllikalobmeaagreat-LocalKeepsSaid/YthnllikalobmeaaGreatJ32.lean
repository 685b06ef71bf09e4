/- Joined: KCodeD, KCodeC, RefSt6, StGood. -/
import Derived.Test.YthnllikalobmeaaGreatJ29
import Derived.Deep.RegionHeld3
import Derived.Deep.RegionLaw
import Derived.Test.YthnllikalobmeaaGreatJ28
import Derived.Test.YthnllikalobmeaaGreatJ31
import Derived.Test.YthnllikalobmeaaGreatJ27
namespace Go.Proofs.YthnllikalobmeaaGreat
set_option linter.unusedVariables false
set_option linter.unusedSimpArgs false
set_option maxRecDepth 100000
set_option maxHeartbeats 8000000
open Go.RowKit
theorem y32h {p:Prop} (h:p):Hid p:=Lib.hid h
theorem zvs (l:List Fr):(!(l.any oddB)) = l.all (ze0 zax):=by
 rw [List.not_any_eq_all_not]
 congr 1
 funext f
 unfold oddB ze0
 rw [Bool.not_or,Bool.not_not,List.not_any_eq_all_not]
 congr 1
 congr 1
 funext s
 rw [Bool.not_not]
theorem zk9 (nm:ByteArray → Bool) (hnm:nm = zax) (a:Kn) (v:Value) (w:World) (hR:FrW w a.l v) (hl1:(zah a.l).length ≤ 10000) :
   Calls Tryz.prog 38 #[knV a.star v] w fun e w'=>e = .returned (.bool (mayK nm a)) ∧ Below w.heap.size w w':=by
 subst hnm
 obtain ⟨ov,cv,rfl⟩:=hR.val
 have OA:=y32h (Own.newAt w (knA a.star (.slice ov a.l.length cv)) 31 (b:=w.heap.size) (by first | rfl | simp)).has
 have BEL:=y32h ((Below.refl w.heap.size w).alloc (by first | exact Nat.le_refl _ | (simp;omega) | simp) (.cells (knA a.star (.slice ov a.l.length cv)) 31))
 have LA:=y32h (hR.later BEL.out (Nat.le_refl _))
 have PA:=fun w' h=>y32h (zdc a (.slice ov a.l.length cv) w' h hl1)
 have EQ:=fun va vb w' h h'=>y32h (show Calls Tryz.prog 80 #[knV a.star va,knV a.star vb] w' (fun e w''=>e = .returned (.bool (zbk a (zaf a))) ∧ Below w'.heap.size w' w'') from zmn a (zaf a) va vb w' h h')
 have MV:=fun w'=>y32h (zg7 a.star w')
 have CD:=fun w' h=>y32h (zit oddB a.l (.slice ov a.l.length cv) w' h fun w' hb k f u hf hu=>zrp f u w' hu)
 have e:mayK zax a = ((mayV a.star && !(a.l.any oddB)) && zbk a (zaf a)):=by
   unfold mayK
   rw [zvs]
   cases mayV a.star <;> cases zbk a (zaf a) <;> cases a.l.all (ze0 zax) <;> rfl
 rw [e]
 clear e hR hl1
 generalize zbk a (zaf a) = al at *
 generalize (zaf a).l = ra at *
 generalize a.l.length = len at *
 generalize a.l.any oddB = od at *
 cases hm:mayV a.star
 · rw [hm] at MV
   go_enter Tryz.func38,Tryz.ntmps38
   go_wp2_with fail
   replace OA:=y32h (OA.out.drew)
   replace BEL:=y32h (BEL.out.drew)
   have l1:=OA.out.cell
   have z1:=OA.out.lt
   first | (go_region_law (first
       | (go_simp;go_at_call 78;refine (MV _).out.mono ?_;rintro e wa ⟨rfl,hb⟩;have BELa:=y32h (BEL.out.trans (hb.mono BEL.out.size));clear hb)
       | fail)) | fail
   all_goals
     go_wp2_with fail
     go_ret
     exact ⟨rfl,BELa.out⟩
 · rw [hm] at MV
   cases hod:od
   · subst hod
     go_enter Tryz.func38,Tryz.ntmps38
     go_wp2_with fail
     replace OA:=y32h (OA.out.drew)
     replace LA:=y32h (LA.out.later (Below.refl _ _).drew (Nat.le_refl _))
     replace BEL:=y32h (BEL.out.drew)
     first | (go_region_held3 (fun w'=>∀ o,w'.cell? ⟨w.heap.size,o,none⟩ = (knA a.star (.slice ov len cv))[o]?) (exact OA.out.cell) (first
         | (go_simp;go_at_call 78;refine (MV _).out.mono ?_;rintro e wa ⟨rfl,hb⟩;replace OA:=y32h (OA.out.below hb OA.out.lt);replace LA:=y32h (LA.out.later hb (Nat.le_refl _));replace BEL:=y32h (BEL.out.trans (hb.mono BEL.out.size));clear hb)
         | (go_simp;go_at_call 61;refine (CD _ LA.out).out.mono ?_;rintro e wb ⟨rfl,hb⟩;replace OA:=y32h (OA.out.below hb OA.out.lt);replace LA:=y32h (LA.out.later hb (Nat.le_refl _));replace BEL:=y32h (BEL.out.trans (hb.mono BEL.out.size));clear hb)
         | (go_simp;go_at_call 81;refine (PA _ LA.out).out.mono ?_;rintro e wc ⟨va,rfl,hfa,hb⟩;obtain ⟨oa,ca,rfl⟩:=hfa.fr.val;have FA:=y32h hfa.fr;replace OA:=y32h (OA.out.below hb OA.out.lt);replace LA:=y32h (LA.out.later hb (Nat.le_refl _));replace BEL:=y32h (BEL.out.trans (hb.mono BEL.out.size));clear hb hfa)
         | (go_simp;go_at_call 80;refine (EQ _ _ _ LA.out FA.out).out.mono ?_;rintro e wd ⟨rfl,hb⟩;replace OA:=y32h (OA.out.below hb OA.out.lt);replace BEL:=y32h (BEL.out.trans (hb.mono BEL.out.size));clear hb)
         | fail)) | fail
     all_goals
       go_wp2_with fail
       go_ret
       exact ⟨rfl,BEL.out⟩
   · subst hod
     go_enter Tryz.func38,Tryz.ntmps38
     go_wp2_with fail
     replace OA:=y32h (OA.out.drew)
     replace LA:=y32h (LA.out.later (Below.refl _ _).drew (Nat.le_refl _))
     replace BEL:=y32h (BEL.out.drew)
     have l1:=OA.out.cell
     have z1:=OA.out.lt
     first | (go_region_law (first
         | (go_simp;go_at_call 78;refine (MV _).out.mono ?_;rintro e wa ⟨rfl,hb⟩;have OAa:=y32h (OA.out.below hb OA.out.lt);have LAa:=y32h (LA.out.later hb (Nat.le_refl _));have BELa:=y32h (BEL.out.trans (hb.mono BEL.out.size));have la:=OAa.out.cell;have za:=OAa.out.lt;clear hb)
         | (go_simp;go_at_call 61;refine (CD _ LAa.out).out.mono ?_;rintro e wb ⟨rfl,hb⟩;have BELb:=y32h (BELa.out.trans (hb.mono BELa.out.size));clear hb)
         | fail)) | fail
     all_goals
       go_wp2_with fail
       go_ret
       exact ⟨rfl,BELb.out⟩
theorem ztb (A:Nat → Int) (v:Value) {k:Nat} (hk:k < 8) (c:Int):(knA A v).setIfInBounds k (.int .i64 c) = knA (fun j=>if j = k then c else A j) v:=by
 obtain rfl | rfl | rfl | rfl | rfl | rfl | rfl | rfl:k = 0 ∨ k = 1 ∨ k = 2 ∨ k = 3 ∨ k = 4 ∨ k = 5 ∨ k = 6 ∨ k = 7:=by omega
 all_goals simp [knA]
theorem zib (A:Nat → Int) (v:Value) {k:Nat} (hk:k < 8):(knA A v)[k]? = some (.int .i64 (A k)):=by
 obtain rfl | rfl | rfl | rfl | rfl | rfl | rfl | rfl:k = 0 ∨ k = 1 ∨ k = 2 ∨ k = 3 ∨ k = 4 ∨ k = 5 ∨ k = 6 ∨ k = 7:=by omega
 all_goals rfl
theorem zpl {A B:Nat → Int} (v:Value) (h:∀ j,j < 8 → A j = B j):knA A v = knA B v:=by
 simp only [knA,h 0 (by omega),h 1 (by omega),h 2 (by omega),h 3 (by omega),h 4 (by omega),h 5 (by omega),h 6 (by omega),h 7 (by omega)]
theorem zd9 {K:Kn} {id:ByteArray} {r c:Int} (h:(r < 1 ∨ 8 < r ∨ c < 1) ∨ K.star (r - 1).toNat ≠ c - 1):ownK K id r c = zat K id r c:=if_pos h
theorem zpm {K:Kn} {id:ByteArray} {k:Nat} {c:Int} (hk:k < 8) (hc:1 ≤ c) (he:K.star k = c - 1):ownK K id ((k:Int) + 1) c = ⟨zau K.star ((k:Int) + 1) c,K.l⟩:=by
 unfold ownK
 rw [if_neg]
 rintro (h | h)
 · omega
 · rw [show ((k:Int) + 1 - 1).toNat = k by omega] at h
   exact h he
theorem znr {A:Nat → Int} {k:Nat} {c:Int} (hk:k < 8) (he:A k = c - 1):∀ j,j < 8 → (if j = k then c else A j) = zau A ((k:Int) + 1) c j:=by
 intro j hj
 unfold zau
 rw [show ((k:Int) + 1 - 1).toNat = k by omega]
 by_cases e:j = k
 · subst e;rw [if_pos rfl,if_pos ⟨rfl,by omega,by omega,by omega⟩]
 · rw [if_neg e,if_neg (by omega)]
theorem ztc (A:Nat → Int) (l:List Fr) (id:ByteArray) (r c:Int) (h:r < 1) (ov:Option Addr) (cv:Nat) (w:World) (hR:FrW w l (.slice ov l.length cv)) (hid:id.size ≤ maxLen) (hl1:(zah (zat ⟨A,l⟩ id r c).l).length ≤ 10000) (hl2:l.length ≤ 10000) :
   Calls Tryz.prog 117 #[knV A (.slice ov l.length cv),.string id,.agg #[.int .i64 r,.int .i64 c]] w fun e w'=>∃ v',e = .returned (knV A v') ∧ FrFresh w' w.heap.size (zaf (zat ⟨A,l⟩ id r c)).l v' ∧ Below w.heap.size w w':=by
 have CI:=fun w' h=>y32h (zco ⟨A,l⟩ id r c (.slice ov l.length cv) w' h hid hl1 hl2)
 have O1:=y32h (((Own.newAt w (knA A (.slice ov l.length cv)) 31 (b:=w.heap.size) (by first | rfl | simp)).alloc (.cells #[.int .i64 r,.int .i64 c] 67)).alloc (.cells #[.int .i64 0,.int .i64 0,.int .i64 0,.int .i64 0,.int .i64 0,.int .i64 0,.int .i64 0,.int .i64 0,.slice none 0 0] 31))
 have O2:=y32h ((Own.newAt (w.alloc (.cells (knA A (.slice ov l.length cv)) 31)) #[.int .i64 r,.int .i64 c] 67 (b:=w.heap.size + 1) (by first | rfl | simp)).alloc (.cells #[.int .i64 0,.int .i64 0,.int .i64 0,.int .i64 0,.int .i64 0,.int .i64 0,.int .i64 0,.int .i64 0,.slice none 0 0] 31))
 have O3:=y32h (Own.newAt ((w.alloc (.cells (knA A (.slice ov l.length cv)) 31)).alloc (.cells #[.int .i64 r,.int .i64 c] 67)) #[.int .i64 0,.int .i64 0,.int .i64 0,.int .i64 0,.int .i64 0,.int .i64 0,.int .i64 0,.int .i64 0,.slice none 0 0] 31 (b:=w.heap.size + 1 + 1) (by first | rfl | simp))
 have BE:=y32h ((((Below.refl w.heap.size w).alloc (by first | exact Nat.le_refl _ | (simp;omega) | simp) (.cells (knA A (.slice ov l.length cv)) 31)).alloc (by first | exact Nat.le_refl _ | (simp;omega) | simp) (.cells #[.int .i64 r,.int .i64 c] 67)).alloc (by first | exact Nat.le_refl _ | (simp;omega) | simp) (.cells #[.int .i64 0,.int .i64 0,.int .i64 0,.int .i64 0,.int .i64 0,.int .i64 0,.int .i64 0,.int .i64 0,.slice none 0 0] 31))
 have HR:=y32h (hR.later BE.out (Nat.le_refl _))
 clear hR hl1 hl2
 generalize (zaf (zat ⟨A,l⟩ id r c)).l = res at *
 have g1:decide (r < 1) = true:=decide_eq_true h
 go_enter Tryz.func117,Tryz.ntmps117
 have LA:=fun dd os o=>O2.out.has.regrown dd os o
 have LB:=fun dd os o=>O1.out.has.regrown dd os o
 have z1:=O1.out.lt
 have z2:=O2.out.lt
 go_wp2_with fail
 refine wp_region_quiet_below (by kernel_rfl) (by kernel_rfl) ?_
 repeat (first | go_big_quiet_step (fail) | quiet_step (fail))
 refine wpQuiet_nil ?_
 intro w7 hw'
 have hb7:=zae hw'
 clear hw' LA LB z1 z2
 have P1:=y32h (O1.out.later hb7)
 have P2:=y32h (O2.out.later hb7)
 have P3:=y32h (O3.out.later hb7)
 have BE7:=y32h (BE.out.trans (hb7.mono BE.out.size))
 have HR7:=y32h (HR.out.later hb7 (Nat.le_refl _))
 clear O1 O2 O3 BE HR hb7
 have CIW:=CI w7 HR7.out
 have l1:=P1.out.cell
 have z1:=P1.out.lt
 have l2:=P2.out.cell
 have z2:=P2.out.lt
 go_wp2_with (go_at_call 99;refine CIW.out.mono ?_;rintro e w8 ⟨v8,rfl,hfr8,hb8⟩;obtain ⟨o8,c8,rfl⟩:=hfr8.fr.val;clear l1 z1 l2 z2;have O38:=y32h (P3.out.later hb8);have BE8:=y32h (BE7.out.trans (hb8.mono BE7.out.size));have l3:=O38.out.cell;have f3:=O38.out.free;have z3:=O38.out.lt;have z38:=y32h (P3.out.lt);have HFF:=y32h hfr8;clear hb8 hfr8;generalize res.length = n8 at *)
 clear l3 f3 z3
 have key:=And.intro (zdt O38.out (.int .i64 (A 0)) (.int .i64 (A 1)) (.int .i64 (A 2)) (.int .i64 (A 3)) (.int .i64 (A 4)) (.int .i64 (A 5)) (.int .i64 (A 6)) (.int .i64 (A 7)) (.slice o8 n8 c8)) (And.intro (zcl (b:=w.heap.size + 1 + 1) BE8.out (by omega) (.int .i64 (A 0)) (.int .i64 (A 1)) (.int .i64 (A 2)) (.int .i64 (A 3)) (.int .i64 (A 4)) (.int .i64 (A 5)) (.int .i64 (A 6)) (.int .i64 (A 7)) (.slice o8 n8 c8)) (HFF.out.set9 z38.out (.int .i64 (A 0)) (.int .i64 (A 1)) (.int .i64 (A 2)) (.int .i64 (A 3)) (.int .i64 (A 4)) (.int .i64 (A 5)) (.int .i64 (A 6)) (.int .i64 (A 7)) (.slice o8 n8 c8)))
 have z37:=y32h (show w.heap.size ≤ _ from Nat.le_trans (by omega) (Nat.le_of_lt z38.out))
 clear O38 BE8 HFF z38
 unfold st9 st8 at key
 revert key
 generalize World.setCell (World.setCell (World.setCell (World.setCell (World.setCell (World.setCell (World.setCell (World.setCell (World.setCell _ _ _) _ _) _ _) _ _) _ _) _ _) _ _) _ _) _ _ = WW
 rintro ⟨of,bf,ff⟩
 have lf:=of.cell
 refine bodyPost_ret (v:=knV A (.slice o8 n8 c8)) (by simp [results,Tryz.results117,go_sem,lf]) rfl ⟨_,rfl,ff.mono z37.out,bf⟩
theorem zq6 (A:Nat → Int) (l:List Fr) (id:ByteArray) (r c:Int) (h0:1 ≤ r) (h:8 < r) (ov:Option Addr) (cv:Nat) (w:World) (hR:FrW w l (.slice ov l.length cv)) (hid:id.size ≤ maxLen) (hl1:(zah (zat ⟨A,l⟩ id r c).l).length ≤ 10000) (hl2:l.length ≤ 10000) :
   Calls Tryz.prog 117 #[knV A (.slice ov l.length cv),.string id,.agg #[.int .i64 r,.int .i64 c]] w fun e w'=>∃ v',e = .returned (knV A v') ∧ FrFresh w' w.heap.size (zaf (zat ⟨A,l⟩ id r c)).l v' ∧ Below w.heap.size w w':=by
 have CI:=fun w' h=>y32h (zco ⟨A,l⟩ id r c (.slice ov l.length cv) w' h hid hl1 hl2)
 have O1:=y32h (((Own.newAt w (knA A (.slice ov l.length cv)) 31 (b:=w.heap.size) (by first | rfl | simp)).alloc (.cells #[.int .i64 r,.int .i64 c] 67)).alloc (.cells #[.int .i64 0,.int .i64 0,.int .i64 0,.int .i64 0,.int .i64 0,.int .i64 0,.int .i64 0,.int .i64 0,.slice none 0 0] 31))
 have O2:=y32h ((Own.newAt (w.alloc (.cells (knA A (.slice ov l.length cv)) 31)) #[.int .i64 r,.int .i64 c] 67 (b:=w.heap.size + 1) (by first | rfl | simp)).alloc (.cells #[.int .i64 0,.int .i64 0,.int .i64 0,.int .i64 0,.int .i64 0,.int .i64 0,.int .i64 0,.int .i64 0,.slice none 0 0] 31))
 have O3:=y32h (Own.newAt ((w.alloc (.cells (knA A (.slice ov l.length cv)) 31)).alloc (.cells #[.int .i64 r,.int .i64 c] 67)) #[.int .i64 0,.int .i64 0,.int .i64 0,.int .i64 0,.int .i64 0,.int .i64 0,.int .i64 0,.int .i64 0,.slice none 0 0] 31 (b:=w.heap.size + 1 + 1) (by first | rfl | simp))
 have BE:=y32h ((((Below.refl w.heap.size w).alloc (by first | exact Nat.le_refl _ | (simp;omega) | simp) (.cells (knA A (.slice ov l.length cv)) 31)).alloc (by first | exact Nat.le_refl _ | (simp;omega) | simp) (.cells #[.int .i64 r,.int .i64 c] 67)).alloc (by first | exact Nat.le_refl _ | (simp;omega) | simp) (.cells #[.int .i64 0,.int .i64 0,.int .i64 0,.int .i64 0,.int .i64 0,.int .i64 0,.int .i64 0,.int .i64 0,.slice none 0 0] 31))
 have HR:=y32h (hR.later BE.out (Nat.le_refl _))
 clear hR hl1 hl2
 generalize (zaf (zat ⟨A,l⟩ id r c)).l = res at *
 have g1:decide (r < 1) = false:=decide_eq_false (by omega)
 have g2:decide (8 < r) = true:=decide_eq_true h
 go_enter Tryz.func117,Tryz.ntmps117
 have LA:=fun dd os o=>O2.out.has.regrown dd os o
 have LB:=fun dd os o=>O1.out.has.regrown dd os o
 have z1:=O1.out.lt
 have z2:=O2.out.lt
 go_wp2_with fail
 refine wp_region_quiet_below (by kernel_rfl) (by kernel_rfl) ?_
 repeat (first | go_big_quiet_step (fail) | quiet_step (fail))
 refine wpQuiet_nil ?_
 intro w7 hw'
 have hb7:=zae hw'
 clear hw' LA LB z1 z2
 have P1:=y32h (O1.out.later hb7)
 have P2:=y32h (O2.out.later hb7)
 have P3:=y32h (O3.out.later hb7)
 have BE7:=y32h (BE.out.trans (hb7.mono BE.out.size))
 have HR7:=y32h (HR.out.later hb7 (Nat.le_refl _))
 clear O1 O2 O3 BE HR hb7
 have CIW:=CI w7 HR7.out
 have l1:=P1.out.cell
 have z1:=P1.out.lt
 have l2:=P2.out.cell
 have z2:=P2.out.lt
 go_wp2_with (go_at_call 99;refine CIW.out.mono ?_;rintro e w8 ⟨v8,rfl,hfr8,hb8⟩;obtain ⟨o8,c8,rfl⟩:=hfr8.fr.val;clear l1 z1 l2 z2;have O38:=y32h (P3.out.later hb8);have BE8:=y32h (BE7.out.trans (hb8.mono BE7.out.size));have l3:=O38.out.cell;have f3:=O38.out.free;have z3:=O38.out.lt;have z38:=y32h (P3.out.lt);have HFF:=y32h hfr8;clear hb8 hfr8;generalize res.length = n8 at *)
 clear l3 f3 z3
 have key:=And.intro (zdt O38.out (.int .i64 (A 0)) (.int .i64 (A 1)) (.int .i64 (A 2)) (.int .i64 (A 3)) (.int .i64 (A 4)) (.int .i64 (A 5)) (.int .i64 (A 6)) (.int .i64 (A 7)) (.slice o8 n8 c8)) (And.intro (zcl (b:=w.heap.size + 1 + 1) BE8.out (by omega) (.int .i64 (A 0)) (.int .i64 (A 1)) (.int .i64 (A 2)) (.int .i64 (A 3)) (.int .i64 (A 4)) (.int .i64 (A 5)) (.int .i64 (A 6)) (.int .i64 (A 7)) (.slice o8 n8 c8)) (HFF.out.set9 z38.out (.int .i64 (A 0)) (.int .i64 (A 1)) (.int .i64 (A 2)) (.int .i64 (A 3)) (.int .i64 (A 4)) (.int .i64 (A 5)) (.int .i64 (A 6)) (.int .i64 (A 7)) (.slice o8 n8 c8)))
 have z37:=y32h (show w.heap.size ≤ _ from Nat.le_trans (by omega) (Nat.le_of_lt z38.out))
 clear O38 BE8 HFF z38
 unfold st9 st8 at key
 revert key
 generalize World.setCell (World.setCell (World.setCell (World.setCell (World.setCell (World.setCell (World.setCell (World.setCell (World.setCell _ _ _) _ _) _ _) _ _) _ _) _ _) _ _) _ _) _ _ = WW
 rintro ⟨of,bf,ff⟩
 have lf:=of.cell
 refine bodyPost_ret (v:=knV A (.slice o8 n8 c8)) (by simp [results,Tryz.results117,go_sem,lf]) rfl ⟨_,rfl,ff.mono z37.out,bf⟩
theorem zq8 (A:Nat → Int) (l:List Fr) (id:ByteArray) (r c:Int) (h0:1 ≤ r) (h1:r ≤ 8) (h:c < 1) (ov:Option Addr) (cv:Nat) (w:World) (hR:FrW w l (.slice ov l.length cv)) (hid:id.size ≤ maxLen) (hl1:(zah (zat ⟨A,l⟩ id r c).l).length ≤ 10000) (hl2:l.length ≤ 10000) :
   Calls Tryz.prog 117 #[knV A (.slice ov l.length cv),.string id,.agg #[.int .i64 r,.int .i64 c]] w fun e w'=>∃ v',e = .returned (knV A v') ∧ FrFresh w' w.heap.size (zaf (zat ⟨A,l⟩ id r c)).l v' ∧ Below w.heap.size w w':=by
 have CI:=fun w' h=>y32h (zco ⟨A,l⟩ id r c (.slice ov l.length cv) w' h hid hl1 hl2)
 have O1:=y32h (((Own.newAt w (knA A (.slice ov l.length cv)) 31 (b:=w.heap.size) (by first | rfl | simp)).alloc (.cells #[.int .i64 r,.int .i64 c] 67)).alloc (.cells #[.int .i64 0,.int .i64 0,.int .i64 0,.int .i64 0,.int .i64 0,.int .i64 0,.int .i64 0,.int .i64 0,.slice none 0 0] 31))
 have O2:=y32h ((Own.newAt (w.alloc (.cells (knA A (.slice ov l.length cv)) 31)) #[.int .i64 r,.int .i64 c] 67 (b:=w.heap.size + 1) (by first | rfl | simp)).alloc (.cells #[.int .i64 0,.int .i64 0,.int .i64 0,.int .i64 0,.int .i64 0,.int .i64 0,.int .i64 0,.int .i64 0,.slice none 0 0] 31))
 have O3:=y32h (Own.newAt ((w.alloc (.cells (knA A (.slice ov l.length cv)) 31)).alloc (.cells #[.int .i64 r,.int .i64 c] 67)) #[.int .i64 0,.int .i64 0,.int .i64 0,.int .i64 0,.int .i64 0,.int .i64 0,.int .i64 0,.int .i64 0,.slice none 0 0] 31 (b:=w.heap.size + 1 + 1) (by first | rfl | simp))
 have BE:=y32h ((((Below.refl w.heap.size w).alloc (by first | exact Nat.le_refl _ | (simp;omega) | simp) (.cells (knA A (.slice ov l.length cv)) 31)).alloc (by first | exact Nat.le_refl _ | (simp;omega) | simp) (.cells #[.int .i64 r,.int .i64 c] 67)).alloc (by first | exact Nat.le_refl _ | (simp;omega) | simp) (.cells #[.int .i64 0,.int .i64 0,.int .i64 0,.int .i64 0,.int .i64 0,.int .i64 0,.int .i64 0,.int .i64 0,.slice none 0 0] 31))
 have HR:=y32h (hR.later BE.out (Nat.le_refl _))
 clear hR hl1 hl2
 generalize (zaf (zat ⟨A,l⟩ id r c)).l = res at *
 have g1:decide (r < 1) = false:=decide_eq_false (by omega)
 have g2:decide (8 < r) = false:=decide_eq_false (by omega)
 have g3:decide (c < 1) = true:=decide_eq_true h
 go_enter Tryz.func117,Tryz.ntmps117
 have LA:=fun dd os o=>O2.out.has.regrown dd os o
 have LB:=fun dd os o=>O1.out.has.regrown dd os o
 have z1:=O1.out.lt
 have z2:=O2.out.lt
 go_wp2_with fail
 refine wp_region_quiet_below (by kernel_rfl) (by kernel_rfl) ?_
 repeat (first | go_big_quiet_step (fail) | quiet_step (fail))
 refine wpQuiet_nil ?_
 intro w7 hw'
 have hb7:=zae hw'
 clear hw' LA LB z1 z2
 have P1:=y32h (O1.out.later hb7)
 have P2:=y32h (O2.out.later hb7)
 have P3:=y32h (O3.out.later hb7)
 have BE7:=y32h (BE.out.trans (hb7.mono BE.out.size))
 have HR7:=y32h (HR.out.later hb7 (Nat.le_refl _))
 clear O1 O2 O3 BE HR hb7
 have CIW:=CI w7 HR7.out
 have l1:=P1.out.cell
 have z1:=P1.out.lt
 have l2:=P2.out.cell
 have z2:=P2.out.lt
 go_wp2_with (go_at_call 99;refine CIW.out.mono ?_;rintro e w8 ⟨v8,rfl,hfr8,hb8⟩;obtain ⟨o8,c8,rfl⟩:=hfr8.fr.val;clear l1 z1 l2 z2;have O38:=y32h (P3.out.later hb8);have BE8:=y32h (BE7.out.trans (hb8.mono BE7.out.size));have l3:=O38.out.cell;have f3:=O38.out.free;have z3:=O38.out.lt;have z38:=y32h (P3.out.lt);have HFF:=y32h hfr8;clear hb8 hfr8;generalize res.length = n8 at *)
 clear l3 f3 z3
 have key:=And.intro (zdt O38.out (.int .i64 (A 0)) (.int .i64 (A 1)) (.int .i64 (A 2)) (.int .i64 (A 3)) (.int .i64 (A 4)) (.int .i64 (A 5)) (.int .i64 (A 6)) (.int .i64 (A 7)) (.slice o8 n8 c8)) (And.intro (zcl (b:=w.heap.size + 1 + 1) BE8.out (by omega) (.int .i64 (A 0)) (.int .i64 (A 1)) (.int .i64 (A 2)) (.int .i64 (A 3)) (.int .i64 (A 4)) (.int .i64 (A 5)) (.int .i64 (A 6)) (.int .i64 (A 7)) (.slice o8 n8 c8)) (HFF.out.set9 z38.out (.int .i64 (A 0)) (.int .i64 (A 1)) (.int .i64 (A 2)) (.int .i64 (A 3)) (.int .i64 (A 4)) (.int .i64 (A 5)) (.int .i64 (A 6)) (.int .i64 (A 7)) (.slice o8 n8 c8)))
 have z37:=y32h (show w.heap.size ≤ _ from Nat.le_trans (by omega) (Nat.le_of_lt z38.out))
 clear O38 BE8 HFF z38
 unfold st9 st8 at key
 revert key
 generalize World.setCell (World.setCell (World.setCell (World.setCell (World.setCell (World.setCell (World.setCell (World.setCell (World.setCell _ _ _) _ _) _ _) _ _) _ _) _ _) _ _) _ _) _ _ = WW
 rintro ⟨of,bf,ff⟩
 have lf:=of.cell
 refine bodyPost_ret (v:=knV A (.slice o8 n8 c8)) (by simp [results,Tryz.results117,go_sem,lf]) rfl ⟨_,rfl,ff.mono z37.out,bf⟩
theorem zpn (A:Nat → Int) (l:List Fr) (id:ByteArray) (k:Nat) (c:Int) (hk:k < 8) (h0:1 ≤ c) (hcw:c ≤ 9223372036854775807) (h:A k ≠ c - 1) (ov:Option Addr) (cv:Nat) (w:World) (hR:FrW w l (.slice ov l.length cv)) (hid:id.size ≤ maxLen) (hl1:(zah (zat ⟨A,l⟩ id ((k:Int) + 1) c).l).length ≤ 10000) (hl2:l.length ≤ 10000) :
   Calls Tryz.prog 117 #[knV A (.slice ov l.length cv),.string id,.agg #[.int .i64 ((k:Int) + 1),.int .i64 c]] w fun e w'=>∃ v',e = .returned (knV A v') ∧ FrFresh w' w.heap.size (zaf (zat ⟨A,l⟩ id ((k:Int) + 1) c)).l v' ∧ Below w.heap.size w w':=by
 have CI:=fun w' h=>y32h (zco ⟨A,l⟩ id ((k:Int) + 1) c (.slice ov l.length cv) w' h hid hl1 hl2)
 have O1:=y32h (((Own.newAt w (knA A (.slice ov l.length cv)) 31 (b:=w.heap.size) (by first | rfl | simp)).alloc (.cells #[.int .i64 ((k:Int) + 1),.int .i64 c] 67)).alloc (.cells #[.int .i64 0,.int .i64 0,.int .i64 0,.int .i64 0,.int .i64 0,.int .i64 0,.int .i64 0,.int .i64 0,.slice none 0 0] 31))
 have O2:=y32h ((Own.newAt (w.alloc (.cells (knA A (.slice ov l.length cv)) 31)) #[.int .i64 ((k:Int) + 1),.int .i64 c] 67 (b:=w.heap.size + 1) (by first | rfl | simp)).alloc (.cells #[.int .i64 0,.int .i64 0,.int .i64 0,.int .i64 0,.int .i64 0,.int .i64 0,.int .i64 0,.int .i64 0,.slice none 0 0] 31))
 have O3:=y32h (Own.newAt ((w.alloc (.cells (knA A (.slice ov l.length cv)) 31)).alloc (.cells #[.int .i64 ((k:Int) + 1),.int .i64 c] 67)) #[.int .i64 0,.int .i64 0,.int .i64 0,.int .i64 0,.int .i64 0,.int .i64 0,.int .i64 0,.int .i64 0,.slice none 0 0] 31 (b:=w.heap.size + 1 + 1) (by first | rfl | simp))
 have BE:=y32h ((((Below.refl w.heap.size w).alloc (by first | exact Nat.le_refl _ | (simp;omega) | simp) (.cells (knA A (.slice ov l.length cv)) 31)).alloc (by first | exact Nat.le_refl _ | (simp;omega) | simp) (.cells #[.int .i64 ((k:Int) + 1),.int .i64 c] 67)).alloc (by first | exact Nat.le_refl _ | (simp;omega) | simp) (.cells #[.int .i64 0,.int .i64 0,.int .i64 0,.int .i64 0,.int .i64 0,.int .i64 0,.int .i64 0,.int .i64 0,.slice none 0 0] 31))
 have HR:=y32h (hR.later BE.out (Nat.le_refl _))
 clear hR hl1 hl2
 generalize (zaf (zat ⟨A,l⟩ id ((k:Int) + 1) c)).l = res at *
 have g1:decide ((k:Int) + 1 < 1) = false:=decide_eq_false (by omega)
 have g2:decide (8 < (k:Int) + 1) = false:=decide_eq_false (by omega)
 have g3:decide (c < 1) = false:=decide_eq_false (by omega)
 have gk:(k:Int) + 1 - 1 = (k:Int):=by omega
 have k0:(0:Int) ≤ (k:Int):=by omega
 have k1:(k:Int) < 8:=by omega
 have g4:(A k == c - 1) = false:=by rw [beq_eq_false_iff_ne];exact h
 go_enter Tryz.func117,Tryz.ntmps117
 have LA:=fun dd os o=>O2.out.has.regrown dd os o
 have LB:=fun dd os o=>O1.out.has.regrown dd os o
 have z1:=O1.out.lt
 have z2:=O2.out.lt
 have LC:=fun dd os=>(LB dd os k).trans (zib A (.slice ov l.length cv) hk)
 clear LB
 go_wp2_with fail
 refine wp_region_quiet_below (by kernel_rfl) (by kernel_rfl) ?_
 repeat (first | go_big_quiet_step (fail) | quiet_step (fail))
 refine wpQuiet_nil ?_
 intro w7 hw'
 have hb7:=zae hw'
 clear hw' LA LC z1 z2
 have P1:=y32h (O1.out.later hb7)
 have P2:=y32h (O2.out.later hb7)
 have P3:=y32h (O3.out.later hb7)
 have BE7:=y32h (BE.out.trans (hb7.mono BE.out.size))
 have HR7:=y32h (HR.out.later hb7 (Nat.le_refl _))
 clear O1 O2 O3 BE HR hb7
 have CIW:=CI w7 HR7.out
 have l1:=P1.out.cell
 have z1:=P1.out.lt
 have l2:=P2.out.cell
 have z2:=P2.out.lt
 go_wp2_with (go_at_call 99;refine CIW.out.mono ?_;rintro e w8 ⟨v8,rfl,hfr8,hb8⟩;obtain ⟨o8,c8,rfl⟩:=hfr8.fr.val;clear l1 z1 l2 z2;have O38:=y32h (P3.out.later hb8);have BE8:=y32h (BE7.out.trans (hb8.mono BE7.out.size));have l3:=O38.out.cell;have f3:=O38.out.free;have z3:=O38.out.lt;have z38:=y32h (P3.out.lt);have HFF:=y32h hfr8;clear hb8 hfr8;generalize res.length = n8 at *)
 clear l3 f3 z3
 have key:=And.intro (zdt O38.out (.int .i64 (A 0)) (.int .i64 (A 1)) (.int .i64 (A 2)) (.int .i64 (A 3)) (.int .i64 (A 4)) (.int .i64 (A 5)) (.int .i64 (A 6)) (.int .i64 (A 7)) (.slice o8 n8 c8)) (And.intro (zcl (b:=w.heap.size + 1 + 1) BE8.out (by omega) (.int .i64 (A 0)) (.int .i64 (A 1)) (.int .i64 (A 2)) (.int .i64 (A 3)) (.int .i64 (A 4)) (.int .i64 (A 5)) (.int .i64 (A 6)) (.int .i64 (A 7)) (.slice o8 n8 c8)) (HFF.out.set9 z38.out (.int .i64 (A 0)) (.int .i64 (A 1)) (.int .i64 (A 2)) (.int .i64 (A 3)) (.int .i64 (A 4)) (.int .i64 (A 5)) (.int .i64 (A 6)) (.int .i64 (A 7)) (.slice o8 n8 c8)))
 have z37:=y32h (show w.heap.size ≤ _ from Nat.le_trans (by omega) (Nat.le_of_lt z38.out))
 clear O38 BE8 HFF z38
 unfold st9 st8 at key
 revert key
 generalize World.setCell (World.setCell (World.setCell (World.setCell (World.setCell (World.setCell (World.setCell (World.setCell (World.setCell _ _ _) _ _) _ _) _ _) _ _) _ _) _ _) _ _) _ _ = WW
 rintro ⟨of,bf,ff⟩
 have lf:=of.cell
 refine bodyPost_ret (v:=knV A (.slice o8 n8 c8)) (by simp [results,Tryz.results117,go_sem,lf]) rfl ⟨_,rfl,ff.mono z37.out,bf⟩
theorem zq7 (A:Nat → Int) (l:List Fr) (id:ByteArray) (k:Nat) (c:Int) (hk:k < 8) (h0:1 ≤ c) (hcw:c ≤ 9223372036854775807) (h:A k = c - 1) (ov:Option Addr) (cv:Nat) (w:World) (hR:FrW w l (.slice ov l.length cv)) (hl3:(zah l).length ≤ 10000) :
   Calls Tryz.prog 117 #[knV A (.slice ov l.length cv),.string id,.agg #[.int .i64 ((k:Int) + 1),.int .i64 c]] w fun e w'=>∃ v',e = .returned (knV (zau A ((k:Int) + 1) c) v') ∧ FrFresh w' w.heap.size (zaf ⟨zau A ((k:Int) + 1) c,l⟩).l v' ∧ Below w.heap.size w w':=by
 have CP:=fun w' h=>y32h (zdc ⟨zau A ((k:Int) + 1) c,l⟩ (.slice ov l.length cv) w' h hl3)
 have O1:=y32h (((Own.newAt w (knA A (.slice ov l.length cv)) 31 (b:=w.heap.size) (by first | rfl | simp)).alloc (.cells #[.int .i64 ((k:Int) + 1),.int .i64 c] 67)).alloc (.cells #[.int .i64 0,.int .i64 0,.int .i64 0,.int .i64 0,.int .i64 0,.int .i64 0,.int .i64 0,.int .i64 0,.slice none 0 0] 31))
 have O2:=y32h ((Own.newAt (w.alloc (.cells (knA A (.slice ov l.length cv)) 31)) #[.int .i64 ((k:Int) + 1),.int .i64 c] 67 (b:=w.heap.size + 1) (by first | rfl | simp)).alloc (.cells #[.int .i64 0,.int .i64 0,.int .i64 0,.int .i64 0,.int .i64 0,.int .i64 0,.int .i64 0,.int .i64 0,.slice none 0 0] 31))
 have O3:=y32h (Own.newAt ((w.alloc (.cells (knA A (.slice ov l.length cv)) 31)).alloc (.cells #[.int .i64 ((k:Int) + 1),.int .i64 c] 67)) #[.int .i64 0,.int .i64 0,.int .i64 0,.int .i64 0,.int .i64 0,.int .i64 0,.int .i64 0,.int .i64 0,.slice none 0 0] 31 (b:=w.heap.size + 1 + 1) (by first | rfl | simp))
 have BE:=y32h ((((Below.refl w.heap.size w).alloc (by first | exact Nat.le_refl _ | (simp;omega) | simp) (.cells (knA A (.slice ov l.length cv)) 31)).alloc (by first | exact Nat.le_refl _ | (simp;omega) | simp) (.cells #[.int .i64 ((k:Int) + 1),.int .i64 c] 67)).alloc (by first | exact Nat.le_refl _ | (simp;omega) | simp) (.cells #[.int .i64 0,.int .i64 0,.int .i64 0,.int .i64 0,.int .i64 0,.int .i64 0,.int .i64 0,.int .i64 0,.slice none 0 0] 31))
 have HRW:=y32h hR
 have HB:=y32h (znr hk h)
 clear hR
 have HSET:=y32h (fun B (hB:B = zau A ((k:Int) + 1) c)=>(show (knA A (.slice ov l.length cv)).setIfInBounds k (.int .i64 c) = knA B (.slice ov l.length cv) by subst hB;exact (ztb A (.slice ov l.length cv) hk c).trans (zpl (.slice ov l.length cv) HB.out)))
 generalize hBB:zau A ((k:Int) + 1) c = B at *
 have HBB:=y32h hBB
 clear hBB
 generalize (zaf ⟨B,l⟩).l = res at *
 have g1:decide ((k:Int) + 1 < 1) = false:=decide_eq_false (by omega)
 have g2:decide (8 < (k:Int) + 1) = false:=decide_eq_false (by omega)
 have g3:decide (c < 1) = false:=decide_eq_false (by omega)
 have gk:(k:Int) + 1 - 1 = (k:Int):=by omega
 have k0:(0:Int) ≤ (k:Int):=by omega
 have k1:(k:Int) < 8:=by omega
 have g4:(A k == c - 1) = true:=by rw [beq_iff_eq];exact h
 go_enter Tryz.func117,Tryz.ntmps117
 have LA:=fun dd os o=>O2.out.has.regrown dd os o
 have LC:=fun dd os=>(O1.out.has.regrown dd os k).trans (zib A (.slice ov l.length cv) hk)
 have z1:=O1.out.lt
 have z2:=O2.out.lt
 go_wp2_with fail
 refine wp_region_quiet_below (by kernel_rfl) (by kernel_rfl) ?_
 repeat (first | go_big_quiet_step (fail) | quiet_step (fail))
 refine wpQuiet_nil ?_
 intro w7 hw'
 have hb7:=zae hw'
 clear hw' LA LC z1 z2
 have P1:=y32h (O1.out.later hb7)
 have P2:=y32h (O2.out.later hb7)
 have P3:=y32h (O3.out.later hb7)
 have BE7:=y32h (BE.out.trans (hb7.mono BE.out.size))
 clear O1 O2 O3 BE hb7
 have ck:=(P1.out.cell k).trans (zib A (.slice ov l.length cv) hk)
 have fk:=P1.out.free k
 have z1:=P1.out.lt
 have l2:=P2.out.cell
 have z2:=P2.out.lt
 go_upto_region 4 with fail
 have Q1:=y32h (show Own (w7.setCell ⟨w.heap.size,k,none⟩ (.int .i64 c)) w.heap.size (knA B (.slice ov l.length cv)) 31 by rw [← HSET.out B rfl];exact P1.out.set k _)
 have Q3:=y32h (P3.out.setFar ⟨w.heap.size,k,none⟩ (.int .i64 c) (by show w.heap.size + 1 + 1 ≠ w.heap.size;omega))
 have BQ:=y32h (BE7.out.setCell (p:=⟨w.heap.size,k,none⟩) (Nat.le_refl _) (.int .i64 c))
 clear P1 P2 P3 BE7 ck fk z1 l2 z2 HSET HB
 generalize w7.setCell ⟨w.heap.size,k,none⟩ (.int .i64 c) = W7 at *
 have CPW:=CP W7 (HRW.out.later BQ.out (Nat.le_refl _))
 have l1:=Q1.out.cell
 have z1:=Q1.out.lt
 go_wp2_with (go_at_call 81;refine CPW.out.mono ?_;rintro e w8 ⟨v8,rfl,hfr8,hb8⟩;obtain ⟨o8,c8,rfl⟩:=hfr8.fr.val;clear l1 z1;have O38:=y32h (Q3.out.later hb8);have BE8:=y32h (BQ.out.trans (hb8.mono BQ.out.size));have l3:=O38.out.cell;have f3:=O38.out.free;have z3:=O38.out.lt;have z38:=y32h (Q3.out.lt);have HFF:=y32h hfr8;clear hb8 hfr8;generalize res.length = n8 at *)
 clear l3 f3 z3
 have key:=And.intro (zdt O38.out (.int .i64 (B 0)) (.int .i64 (B 1)) (.int .i64 (B 2)) (.int .i64 (B 3)) (.int .i64 (B 4)) (.int .i64 (B 5)) (.int .i64 (B 6)) (.int .i64 (B 7)) (.slice o8 n8 c8)) (And.intro (zcl (b:=w.heap.size + 1 + 1) BE8.out (by omega) (.int .i64 (B 0)) (.int .i64 (B 1)) (.int .i64 (B 2)) (.int .i64 (B 3)) (.int .i64 (B 4)) (.int .i64 (B 5)) (.int .i64 (B 6)) (.int .i64 (B 7)) (.slice o8 n8 c8)) (HFF.out.set9 z38.out (.int .i64 (B 0)) (.int .i64 (B 1)) (.int .i64 (B 2)) (.int .i64 (B 3)) (.int .i64 (B 4)) (.int .i64 (B 5)) (.int .i64 (B 6)) (.int .i64 (B 7)) (.slice o8 n8 c8)))
 have z37:=y32h (show w.heap.size ≤ _ from Nat.le_trans (by omega) (Nat.le_of_lt z38.out))
 clear O38 BE8 HFF z38
 unfold st9 st8 at key
 revert key
 generalize World.setCell (World.setCell (World.setCell (World.setCell (World.setCell (World.setCell (World.setCell (World.setCell (World.setCell _ _ _) _ _) _ _) _ _) _ _) _ _) _ _) _ _) _ _ = WW
 rintro ⟨of,bf,ff⟩
 have lf:=of.cell
 refine bodyPost_ret (v:=knV B (.slice o8 n8 c8)) (by simp [results,Tryz.results117,go_sem,lf]) rfl ⟨_,rfl,ff.mono z37.out,bf⟩
theorem zk1 (K:Kn) (id:ByteArray) (r c:Int) (v:Value) (w:World) (hR:FrW w K.l v) (hid:id.size ≤ maxLen) (hl1:(zah (zat K id r c).l).length ≤ 10000) (hl2:K.l.length ≤ 10000) (hl3:(zah K.l).length ≤ 10000) (hcw:c ≤ 9223372036854775807) :
   Calls Tryz.prog 117 #[knV K.star v,.string id,.agg #[.int .i64 r,.int .i64 c]] w fun e w'=>∃ v',e = .returned (knV (ownK K id r c).star v') ∧ FrFresh w' w.heap.size (zaf (ownK K id r c)).l v' ∧ Below w.heap.size w w':=by
 obtain ⟨ov,cv,rfl⟩:=hR.val
 obtain ⟨A,l⟩:=K
 simp only at *
 by_cases h1:r < 1
 · rw [zd9 (.inl (.inl h1))]
   exact ztc A l id r c h1 ov cv w hR hid hl1 hl2
 by_cases h2:8 < r
 · rw [zd9 (.inl (.inr (.inl h2)))]
   exact zq6 A l id r c (by omega) h2 ov cv w hR hid hl1 hl2
 by_cases h3:c < 1
 · rw [zd9 (.inl (.inr (.inr h3)))]
   exact zq8 A l id r c (by omega) (by omega) h3 ov cv w hR hid hl1 hl2
 obtain ⟨k,rfl⟩:∃ k:Nat,r = (k:Int) + 1:=⟨(r - 1).toNat,by omega⟩
 by_cases h4:A k = c - 1
 · rw [zpm (K:=⟨A,l⟩) (by omega) (by omega) h4]
   exact zq7 A l id k c (by omega) (by omega) hcw h4 ov cv w hR hl3
 · rw [zd9 (K:=⟨A,l⟩) (.inr (by rw [show ((k:Int) + 1 - 1).toNat = k by omega];exact h4))]
   exact zpn A l id k c (by omega) (by omega) hcw h4 ov cv w hR hid hl1 hl2
abbrev zai (s:St) (x:Itm):Itm:=⟨x.id,s.r,s.count + 1,s.clock + 1,x.kd,x.num,x.x,x.y,x.d⟩
abbrev cntS (s:St):St:=⟨s.r,s.f,s.store,s.out,s.k,s.count + 1,s.clock + 1,s.epoch⟩
def preS (s:St) (x:Itm):St:=⟨s.r,s.f,s.store,s.out,⟨(ownK s.k x.id s.r (s.count + 1)).star,(zaf (ownK s.k x.id s.r (s.count + 1))).l⟩,s.count + 1,s.clock + 1,s.epoch⟩
def zas (s:St) (x:Itm):St:=zuk (preS s x) (zai s x) true
def zb0 (s:St):Bool:=decide (s.count = 1000) || decide (s.clock = 1000000)
theorem FrFresh.stays {w w':World} {B:Nat} {l:List Fr} {v:Value} (h:FrFresh w B l v) (hb:Below w.heap.size w w'):FrFresh w' B l v:=fun w'' h1 h2 =>
 h w'' (fun b hB hlt=>(h1 b hB (Nat.lt_of_lt_of_le hlt hb.size)).trans (hb.block b hlt)) (Nat.le_trans hb.size h2)
theorem FrFresh.sets {B b:Nat} {l:List Fr} {v:Value} (hb:b < B) (vs:List Value):∀ {w:World} (o:Nat),FrFresh w B l v → FrFresh (w.setCells b o vs) B l v:=by
 induction vs with
 | nil=>intro w o h;exact h
 | cons u vs ih=>intro w o h;exact ih (o + 1) (h.setLow (a:=⟨b,o,none⟩) hb u)
theorem zt4 (s:St) (fv sv ov kv:Value) (x:Itm) (v:Value) (c:Nat → Value) (hc:∀ j,j < 8 → c j = .int .i64 ((ownK s.k x.id s.r (s.count + 1)).star j)) :
   (((((((((stA (cntS s) fv sv ov kv).setIfInBounds 8 (c 0)).setIfInBounds 9 (c 1)).setIfInBounds 10 (c 2)).setIfInBounds 11 (c 3)).setIfInBounds 12 (c 4)).setIfInBounds 13 (c 5)).setIfInBounds 14 (c 6)).setIfInBounds 15 (c 7)).setIfInBounds 16 v = stA (preS s x) fv sv ov v:=by
 simp [cntS,preS,hc 0 (by omega),hc 1 (by omega),hc 2 (by omega),hc 3 (by omega),hc 4 (by omega),hc 5 (by omega),hc 6 (by omega),hc 7 (by omega)]
def StX (w:World) (B:Nat) (s s':St) (sv ov kv sv' ov' kv':Value):Prop:=(s' = s ∧ sv' = sv ∧ ov' = ov ∧ kv' = kv) ∨ (s'.f = s.f ∧ RowF w B s'.store sv' ∧ RowF w B s'.out ov' ∧ FrFresh w B s'.k.l kv')
theorem StX.refl (w:World) (B:Nat) (s:St) (sv ov kv:Value):StX w B s s sv ov kv sv ov kv:=.inl ⟨rfl,rfl,rfl,rfl⟩
theorem StX.mono {w:World} {B B':Nat} {s s':St} {sv ov kv sv' ov' kv':Value} (h:StX w B s s' sv ov kv sv' ov' kv') (hb:B' ≤ B):StX w B' s s' sv ov kv sv' ov' kv' :=
 h.imp id fun ⟨h0,h1,h2,h3⟩=>⟨h0,h1.mono hb,h2.mono hb,h3.mono hb⟩
theorem StX.later {w w':World} {B:Nat} {s s':St} {sv ov kv sv' ov' kv':Value} (h:StX w B s s' sv ov kv sv' ov' kv') (hb:Below w.heap.size w w'):StX w' B s s' sv ov kv sv' ov' kv' :=
 h.imp id fun ⟨h0,h1,h2,h3⟩=>⟨h0,h1.later hb,h2.later hb,h3.stays hb⟩
theorem StX.sets {w:World} {B b:Nat} {s s':St} {sv ov kv sv' ov' kv':Value} (h:StX w B s s' sv ov kv sv' ov' kv') (hb:b < B) (vs:List Value):StX (w.setCells b 0 vs) B s s' sv ov kv sv' ov' kv' :=
 h.imp id fun ⟨h0,h1,h2,h3⟩=>⟨h0,h1.sets hb vs 0,h2.sets hb vs 0,h3.sets hb vs 0⟩
theorem StX.lies {w w0:World} {B:Nat} {s s':St} {fv sv ov kv sv' ov' kv':Value} (h:StX w B s s' sv ov kv sv' ov' kv') (h0:StW w0 s fv sv ov kv) (hb:Below w0.heap.size w0 w):StW w s' fv sv' ov' kv':=by
 rcases h with ⟨rfl,rfl,rfl,rfl⟩ | ⟨e,h1,h2,h3⟩
 · exact h0.later hb
 · exact ⟨by rw [e];exact h0.lf.later hb (Nat.le_refl _),h1.row,h2.row,h3.fr⟩
theorem zxz {F:ByteArray → Nat → Int} (ids:List ByteArray):∀ {o:List Fr} {f:Fr},f ∈ ids.foldl (zaq F) o → (∃ x ∈ ids,f.v = F x) ∨ ∃ g ∈ o,f.v = g.v:=by
 induction ids with
 | nil=>intro o f h;exact .inr ⟨f,h,rfl⟩
 | cons a l ih =>
   intro o f h
   rw [List.foldl_cons] at h
   rcases ih h with ⟨x,hx,e⟩ | ⟨g,hg,e⟩
   · exact .inl ⟨x,by simp [hx],e⟩
   · unfold zaq at hg
     split at hg
     · exact .inr ⟨g,hg,e⟩
     · rcases zek hg with hg | hg | ⟨g',hg',_,hg⟩
       · exact .inr ⟨g,hg,e⟩
       · exact .inl ⟨a,by simp,by rw [e,hg]⟩
       · exact .inr ⟨g',hg',by rw [e,hg]⟩
theorem zxy {F:ByteArray → Nat → Int} (ids:List ByteArray):∀ {o:List Fr} {x:ByteArray},(∃ f ∈ ids.foldl (zaq F) o,x ∈ f.ids) → x ∈ ids ∨ ∃ f ∈ o,x ∈ f.ids:=by
 induction ids with
 | nil=>intro o x h;exact .inr h
 | cons a l ih =>
   intro o x h
   rw [List.foldl_cons] at h
   rcases ih h with h | h
   · exact .inl (by simp [h])
   · unfold zaq at h
     split at h
     · exact .inr h
     · rcases zor h with h | h
       · exact .inl (by simp [h])
       · exact .inr h
theorem zop {k:Kn} {f:Fr} (h:f ∈ (zaf k).l):∃ x,f.v = beyB k x:=by
 rcases zxz (zbd k) h with ⟨x,_,e⟩ | ⟨g,hg,_⟩
 · exact ⟨x,e⟩
 · simp at hg
theorem zon {k:Kn} {f:Fr} {x:ByteArray} (h:f ∈ (zaf k).l) (hx:x ∈ f.ids):∃ g ∈ k.l,x ∈ g.ids:=by
 rcases zxy (zbd k) ⟨f,h,hx⟩ with h | ⟨g,hg,_⟩
 · exact mem_names.1 h
 · simp at hg
theorem zqo {k:Kn} {j:Nat} {n:Int} (h0:0 ≤ n) (h:∀ f ∈ k.l,f.v j ≤ n) (x:ByteArray):beyB k x j ≤ n:=by
 unfold beyB
 split
 · split
   · exact h0
   · rcases zen k.l x j with e | ⟨f,hf,_,e⟩
     · omega
     · rw [e];exact h f hf
 · exact h0
theorem mayFr_iff {nm:ByteArray → Bool} {f:Fr}:ze0 nm f = true ↔ (∀ j,j < 8 → 0 ≤ f.v j ∧ f.v j ≤ 1000) ∧ ∀ x ∈ f.ids,nm x = true:=by
 unfold ze0
 rw [Bool.and_eq_true,mayV_iff,List.all_eq_true]
theorem zf1 {nm:ByteArray → Bool} {k:Kn}:mayK nm k = true ↔ (zbk k (zaf k) = true ∧ ∀ j,j < 8 → 0 ≤ k.star j ∧ k.star j ≤ 1000) ∧ ∀ f ∈ k.l,ze0 nm f = true:=by
 unfold mayK
 rw [Bool.and_eq_true,Bool.and_eq_true,mayV_iff,List.all_eq_true]
theorem zjc {nm:ByteArray → Bool} {k:Kn} (hs:∀ j,j < 8 → 0 ≤ k.star j ∧ k.star j ≤ 1000) (hl:∀ f ∈ k.l,ze0 nm f = true):mayK nm (zaf k) = true:=by
 rw [zf1]
 refine ⟨⟨zlo (zdm _) (zoo (zgk k)).symm,hs⟩,fun f hf=>?_⟩
 rw [mayFr_iff]
 obtain ⟨y,e⟩:=zop hf
 refine ⟨fun j hj=>?_,fun x hx=>?_⟩
 · rw [e]
   exact ⟨zio k y j,zqo (by decide) (fun g hg=>((mayFr_iff.1 (hl g hg)).1 j hj).2) y⟩
 · obtain ⟨g,hg,hm⟩:=zon hf hx
   exact (mayFr_iff.1 (hl g hg)).2 x hm
theorem zm9 (r c:Int) (hc:0 ≤ c) (j:Nat):0 ≤ zau zac r c j ∧ zau zac r c j ≤ c:=by
 unfold zau zac
 split <;> omega
theorem zkq {k:Kn} {id:ByteArray} {r c:Int} (h:mayK zax k = true) (hid:zax id = true) (hc:0 ≤ c ∧ c ≤ 1000):mayK zax (zaf (zat k id r c)) = true:=by
 rw [zf1] at h
 refine zjc h.1.2 fun f hf=>?_
 rcases List.mem_append.1 hf with hf | hf
 · exact h.2 f hf
 · simp at hf;subst hf
   rw [mayFr_iff]
   exact ⟨fun j _=>⟨(zm9 r c hc.1 j).1,Int.le_trans (zm9 r c hc.1 j).2 hc.2⟩,fun x hx=>by simp at hx;rw [hx];exact hid⟩
theorem zti {k:Kn} {id:ByteArray} {r c:Int} (h:mayK zax k = true) (hid:zax id = true) (hc:0 ≤ c ∧ c ≤ 1000):mayK zax (zaf (ownK k id r c)) = true:=by
 unfold ownK
 split
 · exact zkq h hid hc
 · rw [zf1] at h
   refine zjc (fun j hj=>?_) h.2
   have:=h.1.2 j hj
   show 0 ≤ zau k.star r c j ∧ zau k.star r c j ≤ 1000
   unfold zau
   split <;> omega
theorem beyS_iff {k:Kn} {r n:Int}:beyS k r n = false ↔ cntV k.star r ≤ n ∧ ∀ f ∈ k.l,cntV f.v r ≤ n:=by
 unfold beyS
 rw [Bool.or_eq_false_iff,List.any_eq_false]
 simp only [decide_eq_true_eq,decide_eq_false_iff_not]
 constructor
 · rintro ⟨h1,h2⟩;exact ⟨by omega,fun f hf=>by have:=h2 f hf;omega⟩
 · rintro ⟨h1,h2⟩;exact ⟨by omega,fun f hf=>by have:=h2 f hf;omega⟩
theorem zdl {A:Nat → Int} {r n:Int} (h0:0 ≤ n) (h:1 ≤ r ∧ r ≤ 8 → A (r - 1).toNat ≤ n):cntV A r ≤ n:=by
 unfold cntV
 split
 · rename_i hr;exact h hr
 · exact h0
theorem zir {A:Nat → Int} {r n:Int} (h:cntV A r ≤ n) (hr:1 ≤ r ∧ r ≤ 8):A (r - 1).toNat ≤ n:=by
 unfold cntV at h
 rwa [if_pos hr] at h
theorem zin {k:Kn} {r n:Int} (h0:0 ≤ n) (h:beyS k r n = false):beyS (zaf k) r n = false:=by
 rw [beyS_iff] at h ⊢
 refine ⟨h.1,fun f hf=>zdl h0 fun hr=>?_⟩
 obtain ⟨x,e⟩:=zop hf
 rw [e]
 exact zqo h0 (fun g hg=>zir (h.2 g hg) hr) x
theorem zqn {k:Kn} {r n m:Int} (h:beyS k r n = false) (hm:n ≤ m):beyS k r m = false:=by
 rw [beyS_iff] at h ⊢
 exact ⟨by omega,fun f hf=>by have:=h.2 f hf;omega⟩
theorem zj9 {k:Kn} {id:ByteArray} {r r' c n:Int} (h0:0 ≤ n) (h:beyS k r n = false) (hc:r' = r → c ≤ n) (hc0:0 ≤ c) (hr':1 ≤ r' ∧ r' ≤ 8):beyS (zat k id r' c) r n = false:=by
 rw [beyS_iff] at h ⊢
 refine ⟨h.1,fun f hf=>?_⟩
 rcases List.mem_append.1 hf with hf | hf
 · exact h.2 f hf
 · simp at hf;subst hf
   refine zdl h0 fun hr=>?_
   show zau zac r' c (r - 1).toNat ≤ n
   unfold zau zac
   split
   · rename_i h2
     exact hc (by omega)
   · exact h0
theorem zsr {k:Kn} {id:ByteArray} {r n:Int} (h0:0 ≤ n) (h:beyS k r n = false) (hr:1 ≤ r ∧ r ≤ 8):beyS (ownK k id r (n + 1)) r (n + 1) = false:=by
 unfold ownK
 split
 · exact zj9 (by omega) (zqn h (by omega)) (fun _=>Int.le_refl _) (by omega) hr
 · rw [beyS_iff] at h ⊢
   refine ⟨zdl (by omega) fun hr=>?_,fun f hf=>by have:=h.2 f hf;omega⟩
   have:=zir h.1 hr
   show zau k.star r (n + 1) (r - 1).toNat ≤ n + 1
   unfold zau
   split <;> omega
theorem zkk {k:Kn} {id:ByteArray} {r c n:Int} (h:hasK k id r c = true) (hb:beyS k r n = false):c ≤ n:=by
 rw [beyS_iff] at hb
 unfold hasK at h
 rw [Bool.or_eq_true] at h
 rcases h with h | h
 · unfold hasV at h
   rw [Bool.and_eq_true,decide_eq_true_eq,decide_eq_true_eq] at h
   omega
 · rw [List.any_eq_true] at h
   obtain ⟨f,hf,h⟩:=h
   unfold zev hasV at h
   rw [Bool.and_eq_true,Bool.and_eq_true,decide_eq_true_eq,decide_eq_true_eq] at h
   have:=hb.2 f hf
   omega
structure Stood (s:St) (want:Bool) (i:Itm):Prop where
 has:hasT s.f i = want
 knows:hasK s.k i.id i.r i.c = true
 stamp:i.st ≤ s.clock
structure Good (s:St):Prop where
 f:Pr.mayB s.f = true
 st:zbc s.store = true
 ou:zbc s.out = true
 k:mayK zax s.k = true
 r:1 ≤ s.r ∧ s.r ≤ 8
 n:s.store.length + s.out.length ≤ 40
 c:0 ≤ s.count ∧ s.count ≤ 1000
 t:0 ≤ s.clock ∧ s.clock ≤ 1000000
 e:0 ≤ s.epoch ∧ s.epoch ≤ 1000000
 tw:∀ i ∈ s.out,∀ j ∈ s.store,j.id ≠ i.id
 si:∀ i ∈ s.store,Stood s true i
 so:∀ i ∈ s.out,Stood s false i
 b:beyS s.k s.r s.count = false
theorem inB_iff {n a b:Int}:inB n a b = true ↔ a ≤ n ∧ n ≤ b:=by
 unfold inB;rw [Bool.and_eq_true,decide_eq_true_eq,decide_eq_true_eq]
theorem zp9 {s:St} {l:List Itm} {want:Bool}:zjn s l want = true ↔ ∀ i ∈ l,Stood s want i:=by
 unfold zjn
 rw [List.all_eq_true]
 constructor
 · intro h i hi
   have:=h i hi
   unfold zm4 at this
   rw [Bool.and_eq_true,Bool.and_eq_true,beq_iff_eq,decide_eq_true_eq] at this
   exact ⟨this.1,this.2.1,this.2.2⟩
 · intro h i hi
   obtain ⟨h1,h2,h3⟩:=h i hi
   unfold zm4
   rw [Bool.and_eq_true,Bool.and_eq_true,beq_iff_eq,decide_eq_true_eq]
   exact ⟨h1,h2,h3⟩
theorem get_is {l:List Itm} {id:ByteArray}:(getI l id).2 = true ↔ ∃ i ∈ l,i.id = id:=by
 rcases zbt l id with ⟨i,hi,e,h⟩ | ⟨h,h'⟩
 · rw [h];exact ⟨fun _=>⟨i,hi,e⟩,fun _=>rfl⟩
 · rw [h'];exact ⟨fun q=>by simp at q,fun ⟨i,hi,e⟩=>absurd e (h i hi)⟩
theorem mayS_iff {s:St}:mayS s = true ↔ Good s:=by
 unfold mayS zui numS zsh
 simp only [Bool.and_eq_true,inB_iff,zp9,decide_eq_true_eq,List.all_eq_true,Bool.not_eq_true']
 constructor
 · rintro ⟨⟨h1,h2,h3,h4,h5,h6⟩,⟨h7,h8,h9⟩,h10,h11,h12,h13⟩
   refine ⟨h1,h2,h3,h4,h5,h6,h7,h8,h9,fun i hi j hj e=>?_,h11,h12,h13⟩
   have:=h10 i hi
   rw [get_is.2 ⟨j,hj,e⟩] at this;cases this
 · rintro ⟨h1,h2,h3,h4,h5,h6,h7,h8,h9,h10,h11,h12,h13⟩
   refine ⟨⟨h1,h2,h3,h4,h5,h6⟩,⟨h7,h8,h9⟩,fun i hi=>?_,h11,h12,h13⟩
   cases q:(getI s.store i.id).2 with
   | false=>rfl
   | true=>obtain ⟨j,hj,e⟩:=get_is.1 q;exact absurd e (h10 i hi j hj)
theorem Good.rs {s:St} (h:Good s):zak s.store:=(mayLB_iff.1 h.st).2
theorem Good.ro {s:St} (h:Good s):zak s.out:=(mayLB_iff.1 h.ou).2
theorem zcm {s:St} (h:Good s) (id:ByteArray):(∃ i ∈ s.store,i.id = id ∧ zad s id = (i,true)) ∨ (∃ i ∈ s.out,i.id = id ∧ zad s id = (i,true)) ∨ ((∀ i ∈ s.store,i.id ≠ id) ∧ (∀ i ∈ s.out,i.id ≠ id) ∧ zad s id = (Itm.zero,false)):=by
 unfold zad
 rw [zmc s.out id h.rs h.ro]
 rcases zbt s.out id with ⟨i,hi,e,hg⟩ | ⟨hn,hg⟩
 · have hs:getI s.store id = (Itm.zero,false):=zci fun j hj e'=>h.tw i hi j hj (e'.trans e.symm)
   rw [hg,hs]
   exact .inr (.inl ⟨i,hi,e,by simp⟩)
 · rw [hg]
   rcases zbt s.store id with ⟨j,hj,e,hg'⟩ | ⟨hn',hg'⟩
   · rw [hg'];exact .inl ⟨j,hj,e,by simp⟩
   · rw [hg'];exact .inr (.inr ⟨hn',hn,by simp⟩)
theorem zf7 {s:St} (h:Good s) {id:ByteArray} (hs:(zad s id).2 = true):mayT (zad s id).1 = true ∧ (zad s id).1.id = id:=by
 rcases zcm h id with ⟨i,hi,e,hq⟩ | ⟨i,hi,e,hq⟩ | ⟨_,_,hq⟩
 · rw [hq];exact ⟨(mayLB_iff.1 h.st).1 i hi,e⟩
 · rw [hq];exact ⟨(mayLB_iff.1 h.ou).1 i hi,e⟩
 · rw [hq] at hs;cases hs
theorem zob {l:List Itm} {id:ByteArray} (h:∃ i ∈ l,i.id = id):(l.filter (neB id)).length + 1 ≤ l.length:=by
 obtain ⟨i,hi,e⟩:=h
 have:(l.filter (neB id)).length < l.length:=by
   rw [List.length_filter_lt_length_iff_exists]
   exact ⟨i,hi,by unfold neB;rw [tl_eq.2 e];simp⟩
 omega
theorem zhb (l:List Itm) (id:ByteArray):(l.filter (neB id)).length ≤ l.length:=List.length_filter_le _ _
theorem mayT_iff {i:Itm}:mayT i = true ↔ zax i.id = true ∧ txtB i.kd = true ∧ (1 ≤ i.r ∧ i.r ≤ 8) ∧ (1 ≤ i.c ∧ i.c ≤ 1000) ∧ (1 ≤ i.st ∧ i.st ≤ 1000000) ∧ (inB i.num (-1000000) 1000000 = true) ∧ mayB i.x i.y = true:=by
 unfold mayT mayI verB
 simp only [Bool.and_eq_true,inB_iff]
 constructor
 · rintro ⟨h1,h2,⟨h3,h4⟩,h5,h6,h7⟩;exact ⟨h1,h2,h3,h4,h5,h6,h7⟩
 · rintro ⟨h1,h2,h3,h4,h5,h6,h7⟩;exact ⟨h1,h2,⟨h3,h4⟩,h5,h6,h7⟩
theorem zmb {s:St} (h:Good s) (hf:zb0 s = false):s.count + 1 ≤ 1000 ∧ s.clock + 1 ≤ 1000000:=by
 unfold zb0 at hf
 rw [Bool.or_eq_false_iff,decide_eq_false_iff_not,decide_eq_false_iff_not] at hf
 have:=h.c
 have:=h.t
 omega
theorem zgv {s:St} {x:Itm} (h:Good s) (hx:mayT (zai s x) = true) (hf:zb0 s = false) (hroom:(zad s x.id).2 = true ∨ s.store.length + s.out.length < 40):Good (zas s x):=by
 obtain ⟨hc1,ht1⟩:=zmb h hf
 have hc:=h.c
 have ht:=h.t
 have hid:=(mayT_iff.1 hx).1
 have kk:∀ i:Itm,hasK s.k i.id i.r i.c = true → hasK (zaf (ownK s.k x.id s.r (s.count + 1))) i.id i.r i.c = true:=fun i hi=>zj2 _ _ _ _ _ _ _ (zna _ _ _ _ _ _ _ hi)
 have kx:hasK (zaf (ownK s.k x.id s.r (s.count + 1))) x.id s.r (s.count + 1) = true:=zj2 _ _ _ _ _ _ _ (zf9 _ _ h.r.1 h.r.2 (by omega))
 have sx:∀ w,hasT s.f x = w → Stood (zas s x) w (zai s x):=fun w hw=>⟨hw,kx,Int.le_refl _⟩
 have so:∀ w i,Stood s w i → Stood (zas s x) w i:=fun w i hi=>⟨hi.has,kk i hi.knows,by have:=hi.stamp;show i.st ≤ s.clock + 1;omega⟩
 have ms:∀ i ∈ (zas s x).store,(i ∈ s.store ∧ i.id ≠ x.id) ∨ (i = zai s x ∧ hasT s.f x = true):=fun i hi=>by
   change i ∈ zay (preS s x) (zai s x) at hi
   unfold zay at hi
   split at hi
   · rename_i hh
     rcases mem_put.1 hi with e | ⟨e,_⟩
     · exact .inr ⟨e,hh⟩
     · exact .inl (mem_drop.1 e)
   · exact .inl (mem_drop.1 hi)
 have mo:∀ i ∈ (zas s x).out,(i ∈ s.out ∧ i.id ≠ x.id) ∨ (i = zai s x ∧ hasT s.f x = false):=fun i hi=>by
   change i ∈ laidOut (preS s x) (zai s x) true at hi
   unfold laidOut at hi
   split at hi
   · exact .inl (mem_drop.1 hi)
   · rename_i hh
     rw [if_pos rfl] at hi
     rcases mem_put.1 hi with e | ⟨e,_⟩
     · exact .inr ⟨e,Bool.eq_false_iff.2 hh⟩
     · exact .inl (mem_drop.1 e)
 refine ⟨h.f,?_,?_,zti h.k hid (by omega),h.r,?_,by show 0 ≤ s.count + 1 ∧ s.count + 1 ≤ 1000;omega,by show 0 ≤ s.clock + 1 ∧ s.clock + 1 ≤ 1000000;omega,h.e,fun i hi j hj=>?_,fun i hi=>?_,fun i hi=>?_,?_⟩
 · show zbc (zay (preS s x) (zai s x)) = true
   unfold zay
   split
   · exact zoj (zea h.st) hx
   · exact zea h.st
 · show zbc (laidOut (preS s x) (zai s x) true) = true
   unfold laidOut
   split
   · exact zea h.ou
   · rw [if_pos rfl];exact zoj (zea h.ou) hx
 · show (zay (preS s x) (zai s x)).length + (laidOut (preS s x) (zai s x) true).length ≤ 40
   have hn:=h.n
   have f1:=zhb s.store x.id
   have f2:=zhb s.out x.id
   have p1:=zc2 (s.store.filter (neB x.id)) (zai s x)
   have p2:=zc2 (s.out.filter (neB x.id)) (zai s x)
   have hd:(s.store.filter (neB x.id)).length + (s.out.filter (neB x.id)).length + 1 ≤ 40:=by
     rcases zcm h x.id with ⟨i,hi,e,hq⟩ | ⟨i,hi,e,hq⟩ | ⟨_,_,hq⟩
     · have:=zob ⟨i,hi,e⟩;omega
     · have:=zob ⟨i,hi,e⟩;omega
     · rcases hroom with hr | hr
       · rw [hq] at hr;cases hr
       · omega
   unfold zay laidOut
   simp only [if_pos]
   cases hasT (preS s x).f (zai s x) with
   | true=>simp only [if_true];show (putI (s.store.filter (neB x.id)) (zai s x)).length + (s.out.filter (neB x.id)).length ≤ 40;omega
   | false=>simp only [Bool.false_eq_true,if_false];show (s.store.filter (neB x.id)).length + (putI (s.out.filter (neB x.id)) (zai s x)).length ≤ 40;omega
 · rcases mo i hi with ⟨a1,a2⟩ | ⟨a1,a2⟩
   · rcases ms j hj with ⟨b1,b2⟩ | ⟨b1,b2⟩
     · exact h.tw i a1 j b1
     · rw [b1];exact fun e=>a2 e.symm
   · rcases ms j hj with ⟨b1,b2⟩ | ⟨b1,b2⟩
     · rw [a1];exact b2
     · rw [a2] at b2;cases b2
 · rcases ms i hi with ⟨a1,_⟩ | ⟨a1,a2⟩
   · exact so _ i (h.si i a1)
   · rw [a1];exact sx _ a2
 · rcases mo i hi with ⟨a1,_⟩ | ⟨a1,a2⟩
   · exact so _ i (h.so i a1)
   · rw [a1];exact sx _ a2
 · exact zin (by show 0 ≤ s.count + 1;omega) (zsr hc.1 h.b h.r)
end Go.Proofs.YthnllikalobmeaaGreat
