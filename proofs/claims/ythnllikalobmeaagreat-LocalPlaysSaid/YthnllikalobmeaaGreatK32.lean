/- Joined: KCodeC, RefSt1, OpenDs, RefSt6. -/
import Derived.Test.YthnllikalobmeaaGreatK30
import Derived.Test.YthnllikalobmeaaGreatK23
import Derived.Test.YthnllikalobmeaaGreatK22
import Derived.Test.YthnllikalobmeaaGreatK15
import Derived.Test.YthnllikalobmeaaGreatK11
import Derived.Deep.CutBlock
import Derived.Deep.DeepCutAuto
import Derived.Test.YthnllikalobmeaaGreatK28
import Derived.Test.YthnllikalobmeaaGreatK16
import Derived.Test.YthnllikalobmeaaGreatK27
import Derived.Test.YthnllikalobmeaaGreatK31
namespace Go.Proofs.YthnllikalobmeaaGreat
set_option linter.unusedVariables false
set_option linter.unusedSimpArgs false
set_option maxRecDepth 100000
set_option maxHeartbeats 8000000
open Go.RowKit
theorem y32h {p:Prop} (h:p):Hid p:=Lib.hid h
theorem zv3 (A:Nat → Int) (v:Value) {k:Nat} (hk:k < 8) (c:Int):(knA A v).setIfInBounds k (.int .i64 c) = knA (fun j=>if j = k then c else A j) v:=by
 obtain rfl | rfl | rfl | rfl | rfl | rfl | rfl | rfl:k = 0 ∨ k = 1 ∨ k = 2 ∨ k = 3 ∨ k = 4 ∨ k = 5 ∨ k = 6 ∨ k = 7:=by omega
 all_goals simp [knA]
theorem zi8 (A:Nat → Int) (v:Value) {k:Nat} (hk:k < 8):(knA A v)[k]? = some (.int .i64 (A k)):=by
 obtain rfl | rfl | rfl | rfl | rfl | rfl | rfl | rfl:k = 0 ∨ k = 1 ∨ k = 2 ∨ k = 3 ∨ k = 4 ∨ k = 5 ∨ k = 6 ∨ k = 7:=by omega
 all_goals rfl
theorem zru {A B:Nat → Int} (v:Value) (h:∀ j,j < 8 → A j = B j):knA A v = knA B v:=by
 simp only [knA,h 0 (by omega),h 1 (by omega),h 2 (by omega),h 3 (by omega),h 4 (by omega),h 5 (by omega),h 6 (by omega),h 7 (by omega)]
theorem zep {K:Kn} {id:ByteArray} {r c:Int} (h:(r < 1 ∨ 8 < r ∨ c < 1) ∨ K.star (r - 1).toNat ≠ c - 1):ownK K id r c = zap K id r c:=if_pos h
theorem zrv {K:Kn} {id:ByteArray} {k:Nat} {c:Int} (hk:k < 8) (hc:1 ≤ c) (he:K.star k = c - 1):ownK K id ((k:Int) + 1) c = ⟨zav K.star ((k:Int) + 1) c,K.l⟩:=by
 unfold ownK
 rw [if_neg]
 rintro (h | h)
 · omega
 · rw [show ((k:Int) + 1 - 1).toNat = k by omega] at h
   exact h he
theorem zpv {A:Nat → Int} {k:Nat} {c:Int} (hk:k < 8) (he:A k = c - 1):∀ j,j < 8 → (if j = k then c else A j) = zav A ((k:Int) + 1) c j:=by
 intro j hj
 unfold zav
 rw [show ((k:Int) + 1 - 1).toNat = k by omega]
 by_cases e:j = k
 · subst e;rw [if_pos rfl,if_pos ⟨rfl,by omega,by omega,by omega⟩]
 · rw [if_neg e,if_neg (by omega)]
theorem zv4 (A:Nat → Int) (l:List Fr) (id:ByteArray) (r c:Int) (h:r < 1) (ov:Option Addr) (cv:Nat) (w:World) (hR:FrW w l (.slice ov l.length cv)) (hid:id.size ≤ maxLen) (hl1:(zaf (zap ⟨A,l⟩ id r c).l).length ≤ 10000) (hl2:l.length ≤ 10000) :
   Calls Tryz.prog 117 #[knV A (.slice ov l.length cv),.string id,.agg #[.int .i64 r,.int .i64 c]] w fun e w'=>∃ v',e = .returned (knV A v') ∧ FrFresh w' w.heap.size (zai (zap ⟨A,l⟩ id r c)).l v' ∧ Below w.heap.size w w':=by
 have CI:=fun w' h=>y32h (zc5 ⟨A,l⟩ id r c (.slice ov l.length cv) w' h hid hl1 hl2)
 have O1:=y32h (((Own.newAt w (knA A (.slice ov l.length cv)) 31 (b:=w.heap.size) (by first | rfl | simp)).alloc (.cells #[.int .i64 r,.int .i64 c] 67)).alloc (.cells #[.int .i64 0,.int .i64 0,.int .i64 0,.int .i64 0,.int .i64 0,.int .i64 0,.int .i64 0,.int .i64 0,.slice none 0 0] 31))
 have O2:=y32h ((Own.newAt (w.alloc (.cells (knA A (.slice ov l.length cv)) 31)) #[.int .i64 r,.int .i64 c] 67 (b:=w.heap.size + 1) (by first | rfl | simp)).alloc (.cells #[.int .i64 0,.int .i64 0,.int .i64 0,.int .i64 0,.int .i64 0,.int .i64 0,.int .i64 0,.int .i64 0,.slice none 0 0] 31))
 have O3:=y32h (Own.newAt ((w.alloc (.cells (knA A (.slice ov l.length cv)) 31)).alloc (.cells #[.int .i64 r,.int .i64 c] 67)) #[.int .i64 0,.int .i64 0,.int .i64 0,.int .i64 0,.int .i64 0,.int .i64 0,.int .i64 0,.int .i64 0,.slice none 0 0] 31 (b:=w.heap.size + 1 + 1) (by first | rfl | simp))
 have BE:=y32h ((((Below.refl w.heap.size w).alloc (by first | exact Nat.le_refl _ | (simp;omega) | simp) (.cells (knA A (.slice ov l.length cv)) 31)).alloc (by first | exact Nat.le_refl _ | (simp;omega) | simp) (.cells #[.int .i64 r,.int .i64 c] 67)).alloc (by first | exact Nat.le_refl _ | (simp;omega) | simp) (.cells #[.int .i64 0,.int .i64 0,.int .i64 0,.int .i64 0,.int .i64 0,.int .i64 0,.int .i64 0,.int .i64 0,.slice none 0 0] 31))
 have HR:=y32h (hR.later BE.out (Nat.le_refl _))
 clear hR hl1 hl2
 generalize (zai (zap ⟨A,l⟩ id r c)).l = res at *
 have g1:decide (r < 1) = true:=decide_eq_true h
 go_enter Tryz.func117,Tryz.ntmps117
 have LA:=fun dd os o=>O2.out.has.regrown dd os o
 have LB:=fun dd os o=>O1.out.has.regrown dd os o
 have z1:=O1.out.lt
 have z2:=O2.out.lt
 go_wp2_with fail
 refine wp_region_quiet_below (by kernel_rfl) (by kernel_rfl) ?_
 repeat (first | go_big_quiet_step (fail) | quiet_step (fail))
 refine wpQuiet_nil ?_
 intro w7 hw'
 have hb7:=zac hw'
 clear hw' LA LB z1 z2
 have P1:=y32h (O1.out.later hb7)
 have P2:=y32h (O2.out.later hb7)
 have P3:=y32h (O3.out.later hb7)
 have BE7:=y32h (BE.out.trans (hb7.mono BE.out.size))
 have HR7:=y32h (HR.out.later hb7 (Nat.le_refl _))
 clear O1 O2 O3 BE HR hb7
 have CIW:=CI w7 HR7.out
 have l1:=P1.out.cell
 have z1:=P1.out.lt
 have l2:=P2.out.cell
 have z2:=P2.out.lt
 go_wp2_with (go_at_call 99;refine CIW.out.mono ?_;rintro e w8 ⟨v8,rfl,hfr8,hb8⟩;obtain ⟨o8,c8,rfl⟩:=hfr8.fr.val;clear l1 z1 l2 z2;have O38:=y32h (P3.out.later hb8);have BE8:=y32h (BE7.out.trans (hb8.mono BE7.out.size));have l3:=O38.out.cell;have f3:=O38.out.free;have z3:=O38.out.lt;have z38:=y32h (P3.out.lt);have HFF:=y32h hfr8;clear hb8 hfr8;generalize res.length = n8 at *)
 clear l3 f3 z3
 have key:=And.intro (zb6 O38.out (.int .i64 (A 0)) (.int .i64 (A 1)) (.int .i64 (A 2)) (.int .i64 (A 3)) (.int .i64 (A 4)) (.int .i64 (A 5)) (.int .i64 (A 6)) (.int .i64 (A 7)) (.slice o8 n8 c8)) (And.intro (zbh (b:=w.heap.size + 1 + 1) BE8.out (by omega) (.int .i64 (A 0)) (.int .i64 (A 1)) (.int .i64 (A 2)) (.int .i64 (A 3)) (.int .i64 (A 4)) (.int .i64 (A 5)) (.int .i64 (A 6)) (.int .i64 (A 7)) (.slice o8 n8 c8)) (HFF.out.set9 z38.out (.int .i64 (A 0)) (.int .i64 (A 1)) (.int .i64 (A 2)) (.int .i64 (A 3)) (.int .i64 (A 4)) (.int .i64 (A 5)) (.int .i64 (A 6)) (.int .i64 (A 7)) (.slice o8 n8 c8)))
 have z37:=y32h (show w.heap.size ≤ _ from Nat.le_trans (by omega) (Nat.le_of_lt z38.out))
 clear O38 BE8 HFF z38
 unfold st9 st8 at key
 revert key
 generalize World.setCell (World.setCell (World.setCell (World.setCell (World.setCell (World.setCell (World.setCell (World.setCell (World.setCell _ _ _) _ _) _ _) _ _) _ _) _ _) _ _) _ _) _ _ = WW
 rintro ⟨of,bf,ff⟩
 have lf:=of.cell
 refine bodyPost_ret (v:=knV A (.slice o8 n8 c8)) (by simp [results,Tryz.results117,go_sem,lf]) rfl ⟨_,rfl,ff.mono z37.out,bf⟩
theorem ztu (A:Nat → Int) (l:List Fr) (id:ByteArray) (r c:Int) (h0:1 ≤ r) (h:8 < r) (ov:Option Addr) (cv:Nat) (w:World) (hR:FrW w l (.slice ov l.length cv)) (hid:id.size ≤ maxLen) (hl1:(zaf (zap ⟨A,l⟩ id r c).l).length ≤ 10000) (hl2:l.length ≤ 10000) :
   Calls Tryz.prog 117 #[knV A (.slice ov l.length cv),.string id,.agg #[.int .i64 r,.int .i64 c]] w fun e w'=>∃ v',e = .returned (knV A v') ∧ FrFresh w' w.heap.size (zai (zap ⟨A,l⟩ id r c)).l v' ∧ Below w.heap.size w w':=by
 have CI:=fun w' h=>y32h (zc5 ⟨A,l⟩ id r c (.slice ov l.length cv) w' h hid hl1 hl2)
 have O1:=y32h (((Own.newAt w (knA A (.slice ov l.length cv)) 31 (b:=w.heap.size) (by first | rfl | simp)).alloc (.cells #[.int .i64 r,.int .i64 c] 67)).alloc (.cells #[.int .i64 0,.int .i64 0,.int .i64 0,.int .i64 0,.int .i64 0,.int .i64 0,.int .i64 0,.int .i64 0,.slice none 0 0] 31))
 have O2:=y32h ((Own.newAt (w.alloc (.cells (knA A (.slice ov l.length cv)) 31)) #[.int .i64 r,.int .i64 c] 67 (b:=w.heap.size + 1) (by first | rfl | simp)).alloc (.cells #[.int .i64 0,.int .i64 0,.int .i64 0,.int .i64 0,.int .i64 0,.int .i64 0,.int .i64 0,.int .i64 0,.slice none 0 0] 31))
 have O3:=y32h (Own.newAt ((w.alloc (.cells (knA A (.slice ov l.length cv)) 31)).alloc (.cells #[.int .i64 r,.int .i64 c] 67)) #[.int .i64 0,.int .i64 0,.int .i64 0,.int .i64 0,.int .i64 0,.int .i64 0,.int .i64 0,.int .i64 0,.slice none 0 0] 31 (b:=w.heap.size + 1 + 1) (by first | rfl | simp))
 have BE:=y32h ((((Below.refl w.heap.size w).alloc (by first | exact Nat.le_refl _ | (simp;omega) | simp) (.cells (knA A (.slice ov l.length cv)) 31)).alloc (by first | exact Nat.le_refl _ | (simp;omega) | simp) (.cells #[.int .i64 r,.int .i64 c] 67)).alloc (by first | exact Nat.le_refl _ | (simp;omega) | simp) (.cells #[.int .i64 0,.int .i64 0,.int .i64 0,.int .i64 0,.int .i64 0,.int .i64 0,.int .i64 0,.int .i64 0,.slice none 0 0] 31))
 have HR:=y32h (hR.later BE.out (Nat.le_refl _))
 clear hR hl1 hl2
 generalize (zai (zap ⟨A,l⟩ id r c)).l = res at *
 have g1:decide (r < 1) = false:=decide_eq_false (by omega)
 have g2:decide (8 < r) = true:=decide_eq_true h
 go_enter Tryz.func117,Tryz.ntmps117
 have LA:=fun dd os o=>O2.out.has.regrown dd os o
 have LB:=fun dd os o=>O1.out.has.regrown dd os o
 have z1:=O1.out.lt
 have z2:=O2.out.lt
 go_wp2_with fail
 refine wp_region_quiet_below (by kernel_rfl) (by kernel_rfl) ?_
 repeat (first | go_big_quiet_step (fail) | quiet_step (fail))
 refine wpQuiet_nil ?_
 intro w7 hw'
 have hb7:=zac hw'
 clear hw' LA LB z1 z2
 have P1:=y32h (O1.out.later hb7)
 have P2:=y32h (O2.out.later hb7)
 have P3:=y32h (O3.out.later hb7)
 have BE7:=y32h (BE.out.trans (hb7.mono BE.out.size))
 have HR7:=y32h (HR.out.later hb7 (Nat.le_refl _))
 clear O1 O2 O3 BE HR hb7
 have CIW:=CI w7 HR7.out
 have l1:=P1.out.cell
 have z1:=P1.out.lt
 have l2:=P2.out.cell
 have z2:=P2.out.lt
 go_wp2_with (go_at_call 99;refine CIW.out.mono ?_;rintro e w8 ⟨v8,rfl,hfr8,hb8⟩;obtain ⟨o8,c8,rfl⟩:=hfr8.fr.val;clear l1 z1 l2 z2;have O38:=y32h (P3.out.later hb8);have BE8:=y32h (BE7.out.trans (hb8.mono BE7.out.size));have l3:=O38.out.cell;have f3:=O38.out.free;have z3:=O38.out.lt;have z38:=y32h (P3.out.lt);have HFF:=y32h hfr8;clear hb8 hfr8;generalize res.length = n8 at *)
 clear l3 f3 z3
 have key:=And.intro (zb6 O38.out (.int .i64 (A 0)) (.int .i64 (A 1)) (.int .i64 (A 2)) (.int .i64 (A 3)) (.int .i64 (A 4)) (.int .i64 (A 5)) (.int .i64 (A 6)) (.int .i64 (A 7)) (.slice o8 n8 c8)) (And.intro (zbh (b:=w.heap.size + 1 + 1) BE8.out (by omega) (.int .i64 (A 0)) (.int .i64 (A 1)) (.int .i64 (A 2)) (.int .i64 (A 3)) (.int .i64 (A 4)) (.int .i64 (A 5)) (.int .i64 (A 6)) (.int .i64 (A 7)) (.slice o8 n8 c8)) (HFF.out.set9 z38.out (.int .i64 (A 0)) (.int .i64 (A 1)) (.int .i64 (A 2)) (.int .i64 (A 3)) (.int .i64 (A 4)) (.int .i64 (A 5)) (.int .i64 (A 6)) (.int .i64 (A 7)) (.slice o8 n8 c8)))
 have z37:=y32h (show w.heap.size ≤ _ from Nat.le_trans (by omega) (Nat.le_of_lt z38.out))
 clear O38 BE8 HFF z38
 unfold st9 st8 at key
 revert key
 generalize World.setCell (World.setCell (World.setCell (World.setCell (World.setCell (World.setCell (World.setCell (World.setCell (World.setCell _ _ _) _ _) _ _) _ _) _ _) _ _) _ _) _ _) _ _ = WW
 rintro ⟨of,bf,ff⟩
 have lf:=of.cell
 refine bodyPost_ret (v:=knV A (.slice o8 n8 c8)) (by simp [results,Tryz.results117,go_sem,lf]) rfl ⟨_,rfl,ff.mono z37.out,bf⟩
theorem ztw (A:Nat → Int) (l:List Fr) (id:ByteArray) (r c:Int) (h0:1 ≤ r) (h1:r ≤ 8) (h:c < 1) (ov:Option Addr) (cv:Nat) (w:World) (hR:FrW w l (.slice ov l.length cv)) (hid:id.size ≤ maxLen) (hl1:(zaf (zap ⟨A,l⟩ id r c).l).length ≤ 10000) (hl2:l.length ≤ 10000) :
   Calls Tryz.prog 117 #[knV A (.slice ov l.length cv),.string id,.agg #[.int .i64 r,.int .i64 c]] w fun e w'=>∃ v',e = .returned (knV A v') ∧ FrFresh w' w.heap.size (zai (zap ⟨A,l⟩ id r c)).l v' ∧ Below w.heap.size w w':=by
 have CI:=fun w' h=>y32h (zc5 ⟨A,l⟩ id r c (.slice ov l.length cv) w' h hid hl1 hl2)
 have O1:=y32h (((Own.newAt w (knA A (.slice ov l.length cv)) 31 (b:=w.heap.size) (by first | rfl | simp)).alloc (.cells #[.int .i64 r,.int .i64 c] 67)).alloc (.cells #[.int .i64 0,.int .i64 0,.int .i64 0,.int .i64 0,.int .i64 0,.int .i64 0,.int .i64 0,.int .i64 0,.slice none 0 0] 31))
 have O2:=y32h ((Own.newAt (w.alloc (.cells (knA A (.slice ov l.length cv)) 31)) #[.int .i64 r,.int .i64 c] 67 (b:=w.heap.size + 1) (by first | rfl | simp)).alloc (.cells #[.int .i64 0,.int .i64 0,.int .i64 0,.int .i64 0,.int .i64 0,.int .i64 0,.int .i64 0,.int .i64 0,.slice none 0 0] 31))
 have O3:=y32h (Own.newAt ((w.alloc (.cells (knA A (.slice ov l.length cv)) 31)).alloc (.cells #[.int .i64 r,.int .i64 c] 67)) #[.int .i64 0,.int .i64 0,.int .i64 0,.int .i64 0,.int .i64 0,.int .i64 0,.int .i64 0,.int .i64 0,.slice none 0 0] 31 (b:=w.heap.size + 1 + 1) (by first | rfl | simp))
 have BE:=y32h ((((Below.refl w.heap.size w).alloc (by first | exact Nat.le_refl _ | (simp;omega) | simp) (.cells (knA A (.slice ov l.length cv)) 31)).alloc (by first | exact Nat.le_refl _ | (simp;omega) | simp) (.cells #[.int .i64 r,.int .i64 c] 67)).alloc (by first | exact Nat.le_refl _ | (simp;omega) | simp) (.cells #[.int .i64 0,.int .i64 0,.int .i64 0,.int .i64 0,.int .i64 0,.int .i64 0,.int .i64 0,.int .i64 0,.slice none 0 0] 31))
 have HR:=y32h (hR.later BE.out (Nat.le_refl _))
 clear hR hl1 hl2
 generalize (zai (zap ⟨A,l⟩ id r c)).l = res at *
 have g1:decide (r < 1) = false:=decide_eq_false (by omega)
 have g2:decide (8 < r) = false:=decide_eq_false (by omega)
 have g3:decide (c < 1) = true:=decide_eq_true h
 go_enter Tryz.func117,Tryz.ntmps117
 have LA:=fun dd os o=>O2.out.has.regrown dd os o
 have LB:=fun dd os o=>O1.out.has.regrown dd os o
 have z1:=O1.out.lt
 have z2:=O2.out.lt
 go_wp2_with fail
 refine wp_region_quiet_below (by kernel_rfl) (by kernel_rfl) ?_
 repeat (first | go_big_quiet_step (fail) | quiet_step (fail))
 refine wpQuiet_nil ?_
 intro w7 hw'
 have hb7:=zac hw'
 clear hw' LA LB z1 z2
 have P1:=y32h (O1.out.later hb7)
 have P2:=y32h (O2.out.later hb7)
 have P3:=y32h (O3.out.later hb7)
 have BE7:=y32h (BE.out.trans (hb7.mono BE.out.size))
 have HR7:=y32h (HR.out.later hb7 (Nat.le_refl _))
 clear O1 O2 O3 BE HR hb7
 have CIW:=CI w7 HR7.out
 have l1:=P1.out.cell
 have z1:=P1.out.lt
 have l2:=P2.out.cell
 have z2:=P2.out.lt
 go_wp2_with (go_at_call 99;refine CIW.out.mono ?_;rintro e w8 ⟨v8,rfl,hfr8,hb8⟩;obtain ⟨o8,c8,rfl⟩:=hfr8.fr.val;clear l1 z1 l2 z2;have O38:=y32h (P3.out.later hb8);have BE8:=y32h (BE7.out.trans (hb8.mono BE7.out.size));have l3:=O38.out.cell;have f3:=O38.out.free;have z3:=O38.out.lt;have z38:=y32h (P3.out.lt);have HFF:=y32h hfr8;clear hb8 hfr8;generalize res.length = n8 at *)
 clear l3 f3 z3
 have key:=And.intro (zb6 O38.out (.int .i64 (A 0)) (.int .i64 (A 1)) (.int .i64 (A 2)) (.int .i64 (A 3)) (.int .i64 (A 4)) (.int .i64 (A 5)) (.int .i64 (A 6)) (.int .i64 (A 7)) (.slice o8 n8 c8)) (And.intro (zbh (b:=w.heap.size + 1 + 1) BE8.out (by omega) (.int .i64 (A 0)) (.int .i64 (A 1)) (.int .i64 (A 2)) (.int .i64 (A 3)) (.int .i64 (A 4)) (.int .i64 (A 5)) (.int .i64 (A 6)) (.int .i64 (A 7)) (.slice o8 n8 c8)) (HFF.out.set9 z38.out (.int .i64 (A 0)) (.int .i64 (A 1)) (.int .i64 (A 2)) (.int .i64 (A 3)) (.int .i64 (A 4)) (.int .i64 (A 5)) (.int .i64 (A 6)) (.int .i64 (A 7)) (.slice o8 n8 c8)))
 have z37:=y32h (show w.heap.size ≤ _ from Nat.le_trans (by omega) (Nat.le_of_lt z38.out))
 clear O38 BE8 HFF z38
 unfold st9 st8 at key
 revert key
 generalize World.setCell (World.setCell (World.setCell (World.setCell (World.setCell (World.setCell (World.setCell (World.setCell (World.setCell _ _ _) _ _) _ _) _ _) _ _) _ _) _ _) _ _) _ _ = WW
 rintro ⟨of,bf,ff⟩
 have lf:=of.cell
 refine bodyPost_ret (v:=knV A (.slice o8 n8 c8)) (by simp [results,Tryz.results117,go_sem,lf]) rfl ⟨_,rfl,ff.mono z37.out,bf⟩
theorem zrw (A:Nat → Int) (l:List Fr) (id:ByteArray) (k:Nat) (c:Int) (hk:k < 8) (h0:1 ≤ c) (hcw:c ≤ 9223372036854775807) (h:A k ≠ c - 1) (ov:Option Addr) (cv:Nat) (w:World) (hR:FrW w l (.slice ov l.length cv)) (hid:id.size ≤ maxLen) (hl1:(zaf (zap ⟨A,l⟩ id ((k:Int) + 1) c).l).length ≤ 10000) (hl2:l.length ≤ 10000) :
   Calls Tryz.prog 117 #[knV A (.slice ov l.length cv),.string id,.agg #[.int .i64 ((k:Int) + 1),.int .i64 c]] w fun e w'=>∃ v',e = .returned (knV A v') ∧ FrFresh w' w.heap.size (zai (zap ⟨A,l⟩ id ((k:Int) + 1) c)).l v' ∧ Below w.heap.size w w':=by
 have CI:=fun w' h=>y32h (zc5 ⟨A,l⟩ id ((k:Int) + 1) c (.slice ov l.length cv) w' h hid hl1 hl2)
 have O1:=y32h (((Own.newAt w (knA A (.slice ov l.length cv)) 31 (b:=w.heap.size) (by first | rfl | simp)).alloc (.cells #[.int .i64 ((k:Int) + 1),.int .i64 c] 67)).alloc (.cells #[.int .i64 0,.int .i64 0,.int .i64 0,.int .i64 0,.int .i64 0,.int .i64 0,.int .i64 0,.int .i64 0,.slice none 0 0] 31))
 have O2:=y32h ((Own.newAt (w.alloc (.cells (knA A (.slice ov l.length cv)) 31)) #[.int .i64 ((k:Int) + 1),.int .i64 c] 67 (b:=w.heap.size + 1) (by first | rfl | simp)).alloc (.cells #[.int .i64 0,.int .i64 0,.int .i64 0,.int .i64 0,.int .i64 0,.int .i64 0,.int .i64 0,.int .i64 0,.slice none 0 0] 31))
 have O3:=y32h (Own.newAt ((w.alloc (.cells (knA A (.slice ov l.length cv)) 31)).alloc (.cells #[.int .i64 ((k:Int) + 1),.int .i64 c] 67)) #[.int .i64 0,.int .i64 0,.int .i64 0,.int .i64 0,.int .i64 0,.int .i64 0,.int .i64 0,.int .i64 0,.slice none 0 0] 31 (b:=w.heap.size + 1 + 1) (by first | rfl | simp))
 have BE:=y32h ((((Below.refl w.heap.size w).alloc (by first | exact Nat.le_refl _ | (simp;omega) | simp) (.cells (knA A (.slice ov l.length cv)) 31)).alloc (by first | exact Nat.le_refl _ | (simp;omega) | simp) (.cells #[.int .i64 ((k:Int) + 1),.int .i64 c] 67)).alloc (by first | exact Nat.le_refl _ | (simp;omega) | simp) (.cells #[.int .i64 0,.int .i64 0,.int .i64 0,.int .i64 0,.int .i64 0,.int .i64 0,.int .i64 0,.int .i64 0,.slice none 0 0] 31))
 have HR:=y32h (hR.later BE.out (Nat.le_refl _))
 clear hR hl1 hl2
 generalize (zai (zap ⟨A,l⟩ id ((k:Int) + 1) c)).l = res at *
 have g1:decide ((k:Int) + 1 < 1) = false:=decide_eq_false (by omega)
 have g2:decide (8 < (k:Int) + 1) = false:=decide_eq_false (by omega)
 have g3:decide (c < 1) = false:=decide_eq_false (by omega)
 have gk:(k:Int) + 1 - 1 = (k:Int):=by omega
 have k0:(0:Int) ≤ (k:Int):=by omega
 have k1:(k:Int) < 8:=by omega
 have g4:(A k == c - 1) = false:=by rw [beq_eq_false_iff_ne];exact h
 go_enter Tryz.func117,Tryz.ntmps117
 have LA:=fun dd os o=>O2.out.has.regrown dd os o
 have LB:=fun dd os o=>O1.out.has.regrown dd os o
 have z1:=O1.out.lt
 have z2:=O2.out.lt
 have LC:=fun dd os=>(LB dd os k).trans (zi8 A (.slice ov l.length cv) hk)
 clear LB
 go_wp2_with fail
 refine wp_region_quiet_below (by kernel_rfl) (by kernel_rfl) ?_
 repeat (first | go_big_quiet_step (fail) | quiet_step (fail))
 refine wpQuiet_nil ?_
 intro w7 hw'
 have hb7:=zac hw'
 clear hw' LA LC z1 z2
 have P1:=y32h (O1.out.later hb7)
 have P2:=y32h (O2.out.later hb7)
 have P3:=y32h (O3.out.later hb7)
 have BE7:=y32h (BE.out.trans (hb7.mono BE.out.size))
 have HR7:=y32h (HR.out.later hb7 (Nat.le_refl _))
 clear O1 O2 O3 BE HR hb7
 have CIW:=CI w7 HR7.out
 have l1:=P1.out.cell
 have z1:=P1.out.lt
 have l2:=P2.out.cell
 have z2:=P2.out.lt
 go_wp2_with (go_at_call 99;refine CIW.out.mono ?_;rintro e w8 ⟨v8,rfl,hfr8,hb8⟩;obtain ⟨o8,c8,rfl⟩:=hfr8.fr.val;clear l1 z1 l2 z2;have O38:=y32h (P3.out.later hb8);have BE8:=y32h (BE7.out.trans (hb8.mono BE7.out.size));have l3:=O38.out.cell;have f3:=O38.out.free;have z3:=O38.out.lt;have z38:=y32h (P3.out.lt);have HFF:=y32h hfr8;clear hb8 hfr8;generalize res.length = n8 at *)
 clear l3 f3 z3
 have key:=And.intro (zb6 O38.out (.int .i64 (A 0)) (.int .i64 (A 1)) (.int .i64 (A 2)) (.int .i64 (A 3)) (.int .i64 (A 4)) (.int .i64 (A 5)) (.int .i64 (A 6)) (.int .i64 (A 7)) (.slice o8 n8 c8)) (And.intro (zbh (b:=w.heap.size + 1 + 1) BE8.out (by omega) (.int .i64 (A 0)) (.int .i64 (A 1)) (.int .i64 (A 2)) (.int .i64 (A 3)) (.int .i64 (A 4)) (.int .i64 (A 5)) (.int .i64 (A 6)) (.int .i64 (A 7)) (.slice o8 n8 c8)) (HFF.out.set9 z38.out (.int .i64 (A 0)) (.int .i64 (A 1)) (.int .i64 (A 2)) (.int .i64 (A 3)) (.int .i64 (A 4)) (.int .i64 (A 5)) (.int .i64 (A 6)) (.int .i64 (A 7)) (.slice o8 n8 c8)))
 have z37:=y32h (show w.heap.size ≤ _ from Nat.le_trans (by omega) (Nat.le_of_lt z38.out))
 clear O38 BE8 HFF z38
 unfold st9 st8 at key
 revert key
 generalize World.setCell (World.setCell (World.setCell (World.setCell (World.setCell (World.setCell (World.setCell (World.setCell (World.setCell _ _ _) _ _) _ _) _ _) _ _) _ _) _ _) _ _) _ _ = WW
 rintro ⟨of,bf,ff⟩
 have lf:=of.cell
 refine bodyPost_ret (v:=knV A (.slice o8 n8 c8)) (by simp [results,Tryz.results117,go_sem,lf]) rfl ⟨_,rfl,ff.mono z37.out,bf⟩
theorem ztv (A:Nat → Int) (l:List Fr) (id:ByteArray) (k:Nat) (c:Int) (hk:k < 8) (h0:1 ≤ c) (hcw:c ≤ 9223372036854775807) (h:A k = c - 1) (ov:Option Addr) (cv:Nat) (w:World) (hR:FrW w l (.slice ov l.length cv)) (hl3:(zaf l).length ≤ 10000) :
   Calls Tryz.prog 117 #[knV A (.slice ov l.length cv),.string id,.agg #[.int .i64 ((k:Int) + 1),.int .i64 c]] w fun e w'=>∃ v',e = .returned (knV (zav A ((k:Int) + 1) c) v') ∧ FrFresh w' w.heap.size (zai ⟨zav A ((k:Int) + 1) c,l⟩).l v' ∧ Below w.heap.size w w':=by
 have CP:=fun w' h=>y32h (zdp ⟨zav A ((k:Int) + 1) c,l⟩ (.slice ov l.length cv) w' h hl3)
 have O1:=y32h (((Own.newAt w (knA A (.slice ov l.length cv)) 31 (b:=w.heap.size) (by first | rfl | simp)).alloc (.cells #[.int .i64 ((k:Int) + 1),.int .i64 c] 67)).alloc (.cells #[.int .i64 0,.int .i64 0,.int .i64 0,.int .i64 0,.int .i64 0,.int .i64 0,.int .i64 0,.int .i64 0,.slice none 0 0] 31))
 have O2:=y32h ((Own.newAt (w.alloc (.cells (knA A (.slice ov l.length cv)) 31)) #[.int .i64 ((k:Int) + 1),.int .i64 c] 67 (b:=w.heap.size + 1) (by first | rfl | simp)).alloc (.cells #[.int .i64 0,.int .i64 0,.int .i64 0,.int .i64 0,.int .i64 0,.int .i64 0,.int .i64 0,.int .i64 0,.slice none 0 0] 31))
 have O3:=y32h (Own.newAt ((w.alloc (.cells (knA A (.slice ov l.length cv)) 31)).alloc (.cells #[.int .i64 ((k:Int) + 1),.int .i64 c] 67)) #[.int .i64 0,.int .i64 0,.int .i64 0,.int .i64 0,.int .i64 0,.int .i64 0,.int .i64 0,.int .i64 0,.slice none 0 0] 31 (b:=w.heap.size + 1 + 1) (by first | rfl | simp))
 have BE:=y32h ((((Below.refl w.heap.size w).alloc (by first | exact Nat.le_refl _ | (simp;omega) | simp) (.cells (knA A (.slice ov l.length cv)) 31)).alloc (by first | exact Nat.le_refl _ | (simp;omega) | simp) (.cells #[.int .i64 ((k:Int) + 1),.int .i64 c] 67)).alloc (by first | exact Nat.le_refl _ | (simp;omega) | simp) (.cells #[.int .i64 0,.int .i64 0,.int .i64 0,.int .i64 0,.int .i64 0,.int .i64 0,.int .i64 0,.int .i64 0,.slice none 0 0] 31))
 have HRW:=y32h hR
 have HB:=y32h (zpv hk h)
 clear hR
 have HSET:=y32h (fun B (hB:B = zav A ((k:Int) + 1) c)=>(show (knA A (.slice ov l.length cv)).setIfInBounds k (.int .i64 c) = knA B (.slice ov l.length cv) by subst hB;exact (zv3 A (.slice ov l.length cv) hk c).trans (zru (.slice ov l.length cv) HB.out)))
 generalize hBB:zav A ((k:Int) + 1) c = B at *
 have HBB:=y32h hBB
 clear hBB
 generalize (zai ⟨B,l⟩).l = res at *
 have g1:decide ((k:Int) + 1 < 1) = false:=decide_eq_false (by omega)
 have g2:decide (8 < (k:Int) + 1) = false:=decide_eq_false (by omega)
 have g3:decide (c < 1) = false:=decide_eq_false (by omega)
 have gk:(k:Int) + 1 - 1 = (k:Int):=by omega
 have k0:(0:Int) ≤ (k:Int):=by omega
 have k1:(k:Int) < 8:=by omega
 have g4:(A k == c - 1) = true:=by rw [beq_iff_eq];exact h
 go_enter Tryz.func117,Tryz.ntmps117
 have LA:=fun dd os o=>O2.out.has.regrown dd os o
 have LC:=fun dd os=>(O1.out.has.regrown dd os k).trans (zi8 A (.slice ov l.length cv) hk)
 have z1:=O1.out.lt
 have z2:=O2.out.lt
 go_wp2_with fail
 refine wp_region_quiet_below (by kernel_rfl) (by kernel_rfl) ?_
 repeat (first | go_big_quiet_step (fail) | quiet_step (fail))
 refine wpQuiet_nil ?_
 intro w7 hw'
 have hb7:=zac hw'
 clear hw' LA LC z1 z2
 have P1:=y32h (O1.out.later hb7)
 have P2:=y32h (O2.out.later hb7)
 have P3:=y32h (O3.out.later hb7)
 have BE7:=y32h (BE.out.trans (hb7.mono BE.out.size))
 clear O1 O2 O3 BE hb7
 have ck:=(P1.out.cell k).trans (zi8 A (.slice ov l.length cv) hk)
 have fk:=P1.out.free k
 have z1:=P1.out.lt
 have l2:=P2.out.cell
 have z2:=P2.out.lt
 go_upto_region 4 with fail
 have Q1:=y32h (show Own (w7.setCell ⟨w.heap.size,k,none⟩ (.int .i64 c)) w.heap.size (knA B (.slice ov l.length cv)) 31 by rw [← HSET.out B rfl];exact P1.out.set k _)
 have Q3:=y32h (P3.out.setFar ⟨w.heap.size,k,none⟩ (.int .i64 c) (by show w.heap.size + 1 + 1 ≠ w.heap.size;omega))
 have BQ:=y32h (BE7.out.setCell (p:=⟨w.heap.size,k,none⟩) (Nat.le_refl _) (.int .i64 c))
 clear P1 P2 P3 BE7 ck fk z1 l2 z2 HSET HB
 generalize w7.setCell ⟨w.heap.size,k,none⟩ (.int .i64 c) = W7 at *
 have CPW:=CP W7 (HRW.out.later BQ.out (Nat.le_refl _))
 have l1:=Q1.out.cell
 have z1:=Q1.out.lt
 go_wp2_with (go_at_call 81;refine CPW.out.mono ?_;rintro e w8 ⟨v8,rfl,hfr8,hb8⟩;obtain ⟨o8,c8,rfl⟩:=hfr8.fr.val;clear l1 z1;have O38:=y32h (Q3.out.later hb8);have BE8:=y32h (BQ.out.trans (hb8.mono BQ.out.size));have l3:=O38.out.cell;have f3:=O38.out.free;have z3:=O38.out.lt;have z38:=y32h (Q3.out.lt);have HFF:=y32h hfr8;clear hb8 hfr8;generalize res.length = n8 at *)
 clear l3 f3 z3
 have key:=And.intro (zb6 O38.out (.int .i64 (B 0)) (.int .i64 (B 1)) (.int .i64 (B 2)) (.int .i64 (B 3)) (.int .i64 (B 4)) (.int .i64 (B 5)) (.int .i64 (B 6)) (.int .i64 (B 7)) (.slice o8 n8 c8)) (And.intro (zbh (b:=w.heap.size + 1 + 1) BE8.out (by omega) (.int .i64 (B 0)) (.int .i64 (B 1)) (.int .i64 (B 2)) (.int .i64 (B 3)) (.int .i64 (B 4)) (.int .i64 (B 5)) (.int .i64 (B 6)) (.int .i64 (B 7)) (.slice o8 n8 c8)) (HFF.out.set9 z38.out (.int .i64 (B 0)) (.int .i64 (B 1)) (.int .i64 (B 2)) (.int .i64 (B 3)) (.int .i64 (B 4)) (.int .i64 (B 5)) (.int .i64 (B 6)) (.int .i64 (B 7)) (.slice o8 n8 c8)))
 have z37:=y32h (show w.heap.size ≤ _ from Nat.le_trans (by omega) (Nat.le_of_lt z38.out))
 clear O38 BE8 HFF z38
 unfold st9 st8 at key
 revert key
 generalize World.setCell (World.setCell (World.setCell (World.setCell (World.setCell (World.setCell (World.setCell (World.setCell (World.setCell _ _ _) _ _) _ _) _ _) _ _) _ _) _ _) _ _) _ _ = WW
 rintro ⟨of,bf,ff⟩
 have lf:=of.cell
 refine bodyPost_ret (v:=knV B (.slice o8 n8 c8)) (by simp [results,Tryz.results117,go_sem,lf]) rfl ⟨_,rfl,ff.mono z37.out,bf⟩
theorem zmf (K:Kn) (id:ByteArray) (r c:Int) (v:Value) (w:World) (hR:FrW w K.l v) (hid:id.size ≤ maxLen) (hl1:(zaf (zap K id r c).l).length ≤ 10000) (hl2:K.l.length ≤ 10000) (hl3:(zaf K.l).length ≤ 10000) (hcw:c ≤ 9223372036854775807) :
   Calls Tryz.prog 117 #[knV K.star v,.string id,.agg #[.int .i64 r,.int .i64 c]] w fun e w'=>∃ v',e = .returned (knV (ownK K id r c).star v') ∧ FrFresh w' w.heap.size (zai (ownK K id r c)).l v' ∧ Below w.heap.size w w':=by
 obtain ⟨ov,cv,rfl⟩:=hR.val
 obtain ⟨A,l⟩:=K
 simp only at *
 by_cases h1:r < 1
 · rw [zep (.inl (.inl h1))]
   exact zv4 A l id r c h1 ov cv w hR hid hl1 hl2
 by_cases h2:8 < r
 · rw [zep (.inl (.inr (.inl h2)))]
   exact ztu A l id r c (by omega) h2 ov cv w hR hid hl1 hl2
 by_cases h3:c < 1
 · rw [zep (.inl (.inr (.inr h3)))]
   exact ztw A l id r c (by omega) (by omega) h3 ov cv w hR hid hl1 hl2
 obtain ⟨k,rfl⟩:∃ k:Nat,r = (k:Int) + 1:=⟨(r - 1).toNat,by omega⟩
 by_cases h4:A k = c - 1
 · rw [zrv (K:=⟨A,l⟩) (by omega) (by omega) h4]
   exact ztv A l id k c (by omega) (by omega) hcw h4 ov cv w hR hl3
 · rw [zep (K:=⟨A,l⟩) (.inr (by rw [show ((k:Int) + 1 - 1).toNat = k by omega];exact h4))]
   exact zrw A l id k c (by omega) (by omega) hcw h4 ov cv w hR hid hl1 hl2
theorem zld (a b:St) (af asv ao ak bf bs bo bk:Value) (w:World) (hA:StW w a af asv ao ak) (hB:StW w b bf bs bo bk) :
   Calls Tryz.prog 16 #[stV a af asv ao ak,stV b bf bs bo bk] w fun e w'=>e = .returned (.bool (zkn a b)) ∧ Below w.heap.size w w':=by
 have OA:=y32h ((Has.new w (stA a af asv ao ak) 43).alloc (.cells (stA b bf bs bo bk) 43))
 have OB:=y32h ((Own.newAt (w.alloc (.cells (stA a af asv ao ak) 43)) (stA b bf bs bo bk) 43 (b:=w.heap.size + 1) (by simp)).has)
 have BEL:=y32h (((Below.refl w.heap.size w).alloc (Nat.le_refl _) (.cells (stA a af asv ao ak) 43)).alloc (by simp) (.cells (stA b bf bs bo bk) 43))
 have LA:=y32h ((hA.alloc (.cells (stA a af asv ao ak) 43)).alloc (.cells (stA b bf bs bo bk) 43))
 have LB:=y32h ((hB.alloc (.cells (stA a af asv ao ak) 43)).alloc (.cells (stA b bf bs bo bk) 43))
 clear hA hB
 obtain ⟨r,f,l,o,k,count,clock,epoch⟩:=a
 obtain ⟨r',f',l',o',k',count',clock',epoch'⟩:=b
 have SF:=fun w' h h'=>y32h (zpz f f' af bf w' h h')
 have SS:=fun w' h h'=>y32h (zd2 zcx zfx l l' asv bs w' h h')
 have SO:=fun w' h h'=>y32h (zd2 zcx zfx o o' ao bo w' h h')
 have SK:=fun w' h h'=>y32h (zpg k k' ak bk w' h h')
 have HE:=y32h (show zkn ⟨r,f,l,o,k,count,clock,epoch⟩ ⟨r',f',l',o',k',count',clock',epoch'⟩ = ((decide (r = r') && (decide (count = count') && (decide (clock = clock') && decide (epoch = epoch')))) && (Pr.same f f' && (zbx zcx l l' && (zbx zcx o o' && zby k k')))) from rfl)
 generalize zkn ⟨r,f,l,o,k,count,clock,epoch⟩ ⟨r',f',l',o',k',count',clock',epoch'⟩ = res at *
 try simp only at OA OB LA LB BEL
 have lOA:=OA.out.cell
 have zOA:=OA.out.lt
 have lOB:=OB.out.cell
 have zOB:=OB.out.lt
 by_cases h1:r = r'
 case neg =>
   have E:=y32h (show res = false by rw [HE.out];simp [h1])
   have e1:(r == r') = false:=by simpa using h1
   have e2:(r != r') = true:=by simpa using h1
   clear HE h1
   go_enter Tryz.func16,Tryz.ntmps16
   go_wp2_with fail
   go_ret
   exact ⟨zaa E.out.symm,BEL.out⟩
 subst h1
 by_cases h2:count = count'
 case neg =>
   have E:=y32h (show res = false by rw [HE.out];simp [h2])
   have e1:(count == count') = false:=by simpa using h2
   have e2:(count != count') = true:=by simpa using h2
   clear HE h2
   go_enter Tryz.func16,Tryz.ntmps16
   go_wp2_with fail
   go_ret
   exact ⟨zaa E.out.symm,BEL.out⟩
 subst h2
 by_cases h3:clock = clock'
 case neg =>
   have E:=y32h (show res = false by rw [HE.out];simp [h3])
   have e1:(clock == clock') = false:=by simpa using h3
   have e2:(clock != clock') = true:=by simpa using h3
   clear HE h3
   go_enter Tryz.func16,Tryz.ntmps16
   go_wp2_with fail
   go_ret
   exact ⟨zaa E.out.symm,BEL.out⟩
 subst h3
 by_cases h4:epoch = epoch'
 case neg =>
   have E:=y32h (show res = false by rw [HE.out];simp [h4])
   have e1:(epoch == epoch') = false:=by simpa using h4
   have e2:(epoch != epoch') = true:=by simpa using h4
   clear HE h4
   go_enter Tryz.func16,Tryz.ntmps16
   go_wp2_with fail
   go_ret
   exact ⟨zaa E.out.symm,BEL.out⟩
 subst h4
 have E:=y32h (show res = (Pr.same f f' && (zbx zcx l l' && (zbx zcx o o' && zby k k'))) by rw [HE.out];simp)
 clear HE
 generalize Pr.same f f' = x1 at *
 generalize zbx zcx l l' = x2 at *
 generalize zbx zcx o o' = x3 at *
 generalize zby k k' = x4 at *
 go_enter Tryz.func16,Tryz.ntmps16
 go_upto_region 4 with (first | (go_at_call 29;with_reducible refine (SF _ LA.out.lf LB.out.lf).out.mono ?_;rintro e w1 ⟨rfl,hb⟩;replace OA:=y32h (OA.out.below hb OA.out.lt);replace OB:=y32h (OB.out.below hb OB.out.lt);replace LA:=y32h (LA.out.later hb);replace LB:=y32h (LB.out.later hb);replace BEL:=y32h (BEL.out.trans (hb.mono BEL.out.size));clear hb;replace lOA:=OA.out.cell;replace zOA:=OA.out.lt;replace lOB:=OB.out.cell;replace zOB:=OB.out.lt) | fail)
 clear SF
 go_upto_region 5 with (first | (go_at_call 26;with_reducible refine (SS _ LA.out.ls LB.out.ls).out.mono ?_;rintro e w2 ⟨rfl,hb⟩;replace OA:=y32h (OA.out.below hb OA.out.lt);replace OB:=y32h (OB.out.below hb OB.out.lt);replace LA:=y32h (LA.out.later hb);replace LB:=y32h (LB.out.later hb);replace BEL:=y32h (BEL.out.trans (hb.mono BEL.out.size));clear hb;replace lOA:=OA.out.cell;replace zOA:=OA.out.lt;replace lOB:=OB.out.cell;replace zOB:=OB.out.lt) | fail)
 clear SS
 go_upto_region 6 with (first | (go_at_call 26;with_reducible refine (SO _ LA.out.lo LB.out.lo).out.mono ?_;rintro e w3 ⟨rfl,hb⟩;replace OA:=y32h (OA.out.below hb OA.out.lt);replace OB:=y32h (OB.out.below hb OB.out.lt);replace LA:=y32h (LA.out.later hb);replace LB:=y32h (LB.out.later hb);replace BEL:=y32h (BEL.out.trans (hb.mono BEL.out.size));clear hb;replace lOA:=OA.out.cell;replace zOA:=OA.out.lt;replace lOB:=OB.out.cell;replace zOB:=OB.out.lt) | fail)
 clear SO
 cases x1
 case false =>
   go_wp2_with (first | (go_at_call 47;with_reducible refine (SK _ LA.out.lk LB.out.lk).out.mono ?_;rintro e w4 ⟨rfl,hb⟩;replace OA:=y32h (OA.out.below hb OA.out.lt);replace OB:=y32h (OB.out.below hb OB.out.lt);replace LA:=y32h (LA.out.later hb);replace LB:=y32h (LB.out.later hb);replace BEL:=y32h (BEL.out.trans (hb.mono BEL.out.size));clear hb;replace lOA:=OA.out.cell;replace zOA:=OA.out.lt;replace lOB:=OB.out.cell;replace zOB:=OB.out.lt) | fail)
   go_ret
   exact ⟨zaa (by rw [E.out];simp),BEL.out⟩
 cases x2
 case false =>
   go_wp2_with (first | (go_at_call 47;with_reducible refine (SK _ LA.out.lk LB.out.lk).out.mono ?_;rintro e w4 ⟨rfl,hb⟩;replace OA:=y32h (OA.out.below hb OA.out.lt);replace OB:=y32h (OB.out.below hb OB.out.lt);replace LA:=y32h (LA.out.later hb);replace LB:=y32h (LB.out.later hb);replace BEL:=y32h (BEL.out.trans (hb.mono BEL.out.size));clear hb;replace lOA:=OA.out.cell;replace zOA:=OA.out.lt;replace lOB:=OB.out.cell;replace zOB:=OB.out.lt) | fail)
   go_ret
   exact ⟨zaa (by rw [E.out];simp),BEL.out⟩
 cases x3
 case false =>
   go_wp2_with (first | (go_at_call 47;with_reducible refine (SK _ LA.out.lk LB.out.lk).out.mono ?_;rintro e w4 ⟨rfl,hb⟩;replace OA:=y32h (OA.out.below hb OA.out.lt);replace OB:=y32h (OB.out.below hb OB.out.lt);replace LA:=y32h (LA.out.later hb);replace LB:=y32h (LB.out.later hb);replace BEL:=y32h (BEL.out.trans (hb.mono BEL.out.size));clear hb;replace lOA:=OA.out.cell;replace zOA:=OA.out.lt;replace lOB:=OB.out.cell;replace zOB:=OB.out.lt) | fail)
   go_ret
   exact ⟨zaa (by rw [E.out];simp),BEL.out⟩
 go_wp2_with (first | (go_at_call 47;with_reducible refine (SK _ LA.out.lk LB.out.lk).out.mono ?_;rintro e w4 ⟨rfl,hb⟩;replace OA:=y32h (OA.out.below hb OA.out.lt);replace OB:=y32h (OB.out.below hb OB.out.lt);replace LA:=y32h (LA.out.later hb);replace LB:=y32h (LB.out.later hb);replace BEL:=y32h (BEL.out.trans (hb.mono BEL.out.size));clear hb;replace lOA:=OA.out.cell;replace zOA:=OA.out.lt;replace lOB:=OB.out.cell;replace zOB:=OB.out.lt) | fail)
 go_ret
 exact ⟨zaa (by rw [E.out];simp),BEL.out⟩
end Go.Proofs.YthnllikalobmeaaGreat
namespace Go.Proofs.YthnllikalobmeaaGreat
set_option linter.unusedVariables false
set_option linter.unusedSimpArgs false
set_option maxRecDepth 100000
set_option maxHeartbeats 8000000
open Go.ChangeShapes Go.WideShapes Go.ChangeAt Go.RowKit Go.Deep
structure DsAt (w:World) (l:List (De × Value)) (oa:Option Addr) (cap b o:Nat):Prop where
 len:l.length ≤ cap
 max:cap ≤ maxLen
 at0:0 < l.length → oa = some ⟨b,o,none⟩ ∧ b < w.heap.size
 cell:∀ k x,l[k]? = some x → ∀ j u,(deL x.1 x.2)[j]? = some u → w.cell? ⟨b,o + k * 12 + j,none⟩ = some u
 ok:∀ x ∈ l,DeW w x.1 x.2
def DsW (w:World) (l:List (De × Value)) (v:Value):Prop:=∃ oa cap b o,v = .slice oa l.length cap ∧ DsAt w l oa cap b o
theorem DsAt.later {w w':World} {l:List (De × Value)} {oa:Option Addr} {cap b o:Nat} (h:DsAt w l oa cap b o) (hb:Below w.heap.size w w'):DsAt w' l oa cap b o:=by
 refine ⟨h.len,h.max,fun h0=>⟨(h.at0 h0).1,Nat.lt_of_lt_of_le (h.at0 h0).2 hb.size⟩,fun k x hk j u hu=>?_,fun x hx=>(h.ok x hx).later hb⟩
 have hlt:b < w.heap.size:=(h.at0 (by have:=(List.getElem?_eq_some_iff.1 hk).1;omega)).2
 exact (hb.cell (p:=⟨b,o + k * 12 + j,none⟩) hlt).trans (h.cell k x hk j u hu)
theorem DsW.later {w w':World} {l:List (De × Value)} {v:Value} (h:DsW w l v) (hb:Below w.heap.size w w'):DsW w' l v:=by
 obtain ⟨oa,cap,b,o,e,h⟩:=h
 exact ⟨oa,cap,b,o,e,h.later hb⟩
def z0t:De × Value:=(⟨0,⟨#[]⟩,⟨#[]⟩,0,0,0,.node 0 ⟨#[]⟩ 0 0 0 []⟩,.nilFunc)
section
variable {H:Type} {enc:TypeId × Value → H} {w:World} {base:Nat} {spare:Nat → Bool} {held:Bool} {fuel:Nat} {cs:List Value} {x:DataW H × List MemPlace}
theorem zsn (h:DataW.trod enc Tryz.prog w base spare held fuel 62 cs = some x):∃ (l:List (De × Value)) (v:Value),cs = [v] ∧ DsW w l v:=by
 rcases open_slice Tryz.underlying62 h with ⟨rfl,_⟩ | ⟨a,len,cap,m,n,D,Pl,rfl,_,hl,hm,hmm,_,hx⟩
 · exact ⟨[],_,rfl,none,0,0,0,rfl,Nat.le_refl _,by decide,fun h=>absurd h (by simp),fun k f hk=>by simp at hk,fun i hi=>by simp at hi⟩
 · have hlm:len ≤ m:=by rw [hmm];split <;> omega
   have hC:Tryz.prog.cellsOf 57 = 12:=by kernel_rfl
   rw [hC] at hx
   have key:∀ i,i < len → ∃ (f:De × Value),(∀ j z,(deL f.1 f.2)[j]? = some z → w.cell? (a.add (i * 12 + j)) = some z) ∧ DeW w f.1 f.2:=by
     intro i hi
     obtain ⟨cs',h2,h3⟩:=hx i (by omega)
     obtain ⟨_,hcl,hat⟩:=World.cells?_some h2
     obtain ⟨d,fv,rfl,hd⟩:=zu1 h3
     refine ⟨⟨d,fv⟩,fun j z hz=>?_,hd⟩
     have hj:j < 12:=(List.getElem?_eq_some_iff.1 hz).1
     rw [← Go.Deep.add_add,hat j hj,hz]
   classical
   let F:Nat → De × Value:=fun i=>if h:i < len then (key i h).choose else z0t
   have hF:∀ i,i < len → (∀ j z,(deL (F i).1 (F i).2)[j]? = some z → w.cell? (a.add (i * 12 + j)) = some z) ∧ DeW w (F i).1 (F i).2:=by
     intro i hi
     have:=(key i hi).choose_spec
     simp only [F,dif_pos hi]
     exact this
   have hlk:((List.range len).map F).length = len:=by simp
   have hs:0 < len → a.spot = none ∧ a.block < w.heap.size:=by
     intro h0
     have h1:=(hF 0 h0).1 0 _ rfl
     have e:a.add (0 * 12 + 0) = a:=by simp [Addr.add]
     rw [e] at h1
     exact ⟨World.cell?_spot h1,World.block_lt_of_cell? w _ h1⟩
   refine ⟨(List.range len).map F,_,rfl,some a,cap,a.block,a.off,by rw [hlk],by rw [hlk];exact hl,hm,fun h=>?_,fun k f hk j z hz=>?_,fun f hf=>?_⟩
   · rw [hlk] at h
     exact ⟨congrArg some (zva (hs h).1),(hs h).2⟩
   · obtain ⟨hk',rfl⟩:=zlz F hk
     have h1:=(hF k hk').1 j z hz
     rw [zqa (hs (by omega)).1] at h1
     rw [Nat.add_assoc];exact h1
   · obtain ⟨k,hk,e⟩:=List.mem_iff_getElem.1 hf
     obtain ⟨hk',rfl⟩:=zlz F (by rw [List.getElem?_eq_getElem hk,e])
     exact (hF k hk').2
theorem zr5 {r:Reach} {b0:Nat} {v:Value} {d:DataW H} {p:List MemPlace} (hv:Value.okWide Tryz.prog w r b0 62 v) (h:DataW.Trod enc Tryz.prog w base spare held 62 v d p) :
   ∃ (l:List (De × Value)),DsW w l v:=by
 obtain ⟨a,len,cap,rfl⟩:=okWide_slice Tryz.underlying62 hv
 obtain ⟨f,hf⟩:=h
 obtain ⟨l,u,e,hl⟩:=zsn hf
 have e':Value.slice a len cap = u:=by simpa [Value.cells] using e
 rw [e']
 exact ⟨l,hl⟩
end
end Go.Proofs.YthnllikalobmeaaGreat
namespace Go.Proofs.YthnllikalobmeaaGreat
set_option linter.unusedVariables false
set_option linter.unusedSimpArgs false
set_option maxRecDepth 100000
set_option maxHeartbeats 8000000
open Go.RowKit
abbrev zak (s:St) (x:Itm):Itm:=⟨x.id,s.r,s.count + 1,s.clock + 1,x.kd,x.num,x.x,x.y,x.d⟩
abbrev cntS (s:St):St:=⟨s.r,s.f,s.store,s.out,s.k,s.count + 1,s.clock + 1,s.epoch⟩
def preS (s:St) (x:Itm):St:=⟨s.r,s.f,s.store,s.out,⟨(ownK s.k x.id s.r (s.count + 1)).star,(zai (ownK s.k x.id s.r (s.count + 1))).l⟩,s.count + 1,s.clock + 1,s.epoch⟩
def zay (s:St) (x:Itm):St:=zm5 (preS s x) (zak s x) true
def zbb (s:St):Bool:=decide (s.count = 1000) || decide (s.clock = 1000000)
def zgv (X:World) (b:Nat) (c0 c1 c2 c3 c4 c5 c6 c7 c8:Value):World:=((((((((X.setCell ⟨b,8,none⟩ c0).setCell ⟨b,9,none⟩ c1).setCell ⟨b,10,none⟩ c2).setCell ⟨b,11,none⟩ c3).setCell ⟨b,12,none⟩ c4).setCell ⟨b,13,none⟩ c5).setCell ⟨b,14,none⟩ c6).setCell ⟨b,15,none⟩ c7).setCell ⟨b,16,none⟩ c8
theorem FrFresh.stays {w w':World} {B:Nat} {l:List Fr} {v:Value} (h:FrFresh w B l v) (hb:Below w.heap.size w w'):FrFresh w' B l v:=fun w'' h1 h2 =>
 h w'' (fun b hB hlt=>(h1 b hB (Nat.lt_of_lt_of_le hlt hb.size)).trans (hb.block b hlt)) (Nat.le_trans hb.size h2)
theorem FrFresh.sets {B b:Nat} {l:List Fr} {v:Value} (hb:b < B) (vs:List Value):∀ {w:World} (o:Nat),FrFresh w B l v → FrFresh (w.setCells b o vs) B l v:=by
 induction vs with
 | nil=>intro w o h;exact h
 | cons u vs ih=>intro w o h;exact ih (o + 1) (h.setLow (a:=⟨b,o,none⟩) hb u)
theorem zo4 (s:St) (fv sv ov kv:Value) (x:Itm) (v:Value) (c:Nat → Value) (hc:∀ j,j < 8 → c j = .int .i64 ((ownK s.k x.id s.r (s.count + 1)).star j)) :
   (((((((((stA (cntS s) fv sv ov kv).setIfInBounds 8 (c 0)).setIfInBounds 9 (c 1)).setIfInBounds 10 (c 2)).setIfInBounds 11 (c 3)).setIfInBounds 12 (c 4)).setIfInBounds 13 (c 5)).setIfInBounds 14 (c 6)).setIfInBounds 15 (c 7)).setIfInBounds 16 v = stA (preS s x) fv sv ov v:=by
 simp [cntS,preS,hc 0 (by omega),hc 1 (by omega),hc 2 (by omega),hc 3 (by omega),hc 4 (by omega),hc 5 (by omega),hc 6 (by omega),hc 7 (by omega)]
theorem z0k {X:World} {b:Nat} {s:St} {fv sv ov kv:Value} (h:Own X b (stA (cntS s) fv sv ov kv) 43) (x:Itm) (v:Value):Own (zgv X b (.int .i64 ((ownK s.k x.id s.r (s.count + 1)).star 0)) (.int .i64 ((ownK s.k x.id s.r (s.count + 1)).star 1)) (.int .i64 ((ownK s.k x.id s.r (s.count + 1)).star 2)) (.int .i64 ((ownK s.k x.id s.r (s.count + 1)).star 3)) (.int .i64 ((ownK s.k x.id s.r (s.count + 1)).star 4)) (.int .i64 ((ownK s.k x.id s.r (s.count + 1)).star 5)) (.int .i64 ((ownK s.k x.id s.r (s.count + 1)).star 6)) (.int .i64 ((ownK s.k x.id s.r (s.count + 1)).star 7)) v) b (stA (preS s x) fv sv ov v) 43:=by
 have h2:=((((((((h.set 8 (.int .i64 ((ownK s.k x.id s.r (s.count + 1)).star 0))).set 9 (.int .i64 ((ownK s.k x.id s.r (s.count + 1)).star 1))).set 10 (.int .i64 ((ownK s.k x.id s.r (s.count + 1)).star 2))).set 11 (.int .i64 ((ownK s.k x.id s.r (s.count + 1)).star 3))).set 12 (.int .i64 ((ownK s.k x.id s.r (s.count + 1)).star 4))).set 13 (.int .i64 ((ownK s.k x.id s.r (s.count + 1)).star 5))).set 14 (.int .i64 ((ownK s.k x.id s.r (s.count + 1)).star 6))).set 15 (.int .i64 ((ownK s.k x.id s.r (s.count + 1)).star 7))).set 16 v
 rw [zo4 s fv sv ov kv x v (fun j=>.int .i64 ((ownK s.k x.id s.r (s.count + 1)).star j)) (fun _ _=>rfl)] at h2
 exact h2
theorem ztf {X:World} {b' b:Nat} {c:Array Value} {T:TypeId} (h:Own X b' c T) (hne:b' ≠ b) (c0 c1 c2 c3 c4 c5 c6 c7 c8:Value):Own (zgv X b c0 c1 c2 c3 c4 c5 c6 c7 c8) b' c T :=
 ((((((((h.setFar _ _ hne).setFar _ _ hne).setFar _ _ hne).setFar _ _ hne).setFar _ _ hne).setFar _ _ hne).setFar _ _ hne).setFar _ _ hne).setFar _ _ hne
theorem znc {X w:World} {B b:Nat} (hb:Below B w X) (hp:B ≤ b) (c0 c1 c2 c3 c4 c5 c6 c7 c8:Value):Below B w (zgv X b c0 c1 c2 c3 c4 c5 c6 c7 c8) :=
 ((((((((hb.setCell (p:=⟨b,8,none⟩) hp _).setCell (p:=⟨b,9,none⟩) hp _).setCell (p:=⟨b,10,none⟩) hp _).setCell (p:=⟨b,11,none⟩) hp _).setCell (p:=⟨b,12,none⟩) hp _).setCell (p:=⟨b,13,none⟩) hp _).setCell (p:=⟨b,14,none⟩) hp _).setCell (p:=⟨b,15,none⟩) hp _).setCell (p:=⟨b,16,none⟩) hp _
theorem znw {X:World} {B b:Nat} {l:List Fr} {v:Value} (h:FrFresh X B l v) (hb:b < B) (c0 c1 c2 c3 c4 c5 c6 c7 c8:Value):FrFresh (zgv X b c0 c1 c2 c3 c4 c5 c6 c7 c8) B l v :=
 ((((((((h.setLow (a:=⟨b,8,none⟩) hb _).setLow (a:=⟨b,9,none⟩) hb _).setLow (a:=⟨b,10,none⟩) hb _).setLow (a:=⟨b,11,none⟩) hb _).setLow (a:=⟨b,12,none⟩) hb _).setLow (a:=⟨b,13,none⟩) hb _).setLow (a:=⟨b,14,none⟩) hb _).setLow (a:=⟨b,15,none⟩) hb _).setLow (a:=⟨b,16,none⟩) hb _
def StX (w:World) (B:Nat) (s s':St) (sv ov kv sv' ov' kv':Value):Prop:=(s' = s ∧ sv' = sv ∧ ov' = ov ∧ kv' = kv) ∨ (s'.f = s.f ∧ RowF w B s'.store sv' ∧ RowF w B s'.out ov' ∧ FrFresh w B s'.k.l kv')
theorem StX.refl (w:World) (B:Nat) (s:St) (sv ov kv:Value):StX w B s s sv ov kv sv ov kv:=.inl ⟨rfl,rfl,rfl,rfl⟩
theorem StX.mono {w:World} {B B':Nat} {s s':St} {sv ov kv sv' ov' kv':Value} (h:StX w B s s' sv ov kv sv' ov' kv') (hb:B' ≤ B):StX w B' s s' sv ov kv sv' ov' kv' :=
 h.imp id fun ⟨h0,h1,h2,h3⟩=>⟨h0,h1.mono hb,h2.mono hb,h3.mono hb⟩
theorem StX.later {w w':World} {B:Nat} {s s':St} {sv ov kv sv' ov' kv':Value} (h:StX w B s s' sv ov kv sv' ov' kv') (hb:Below w.heap.size w w'):StX w' B s s' sv ov kv sv' ov' kv' :=
 h.imp id fun ⟨h0,h1,h2,h3⟩=>⟨h0,h1.later hb,h2.later hb,h3.stays hb⟩
theorem StX.sets {w:World} {B b:Nat} {s s':St} {sv ov kv sv' ov' kv':Value} (h:StX w B s s' sv ov kv sv' ov' kv') (hb:b < B) (vs:List Value):StX (w.setCells b 0 vs) B s s' sv ov kv sv' ov' kv' :=
 h.imp id fun ⟨h0,h1,h2,h3⟩=>⟨h0,h1.sets hb vs 0,h2.sets hb vs 0,h3.sets hb vs 0⟩
theorem StX.lies {w w0:World} {B:Nat} {s s':St} {fv sv ov kv sv' ov' kv':Value} (h:StX w B s s' sv ov kv sv' ov' kv') (h0:StW w0 s fv sv ov kv) (hb:Below w0.heap.size w0 w):StW w s' fv sv' ov' kv':=by
 rcases h with ⟨rfl,rfl,rfl,rfl⟩ | ⟨e,h1,h2,h3⟩
 · exact h0.later hb
 · exact ⟨by rw [e];exact h0.lf.later hb (Nat.le_refl _),h1.row,h2.row,h3.fr⟩
theorem zeg (s:St) (fv sv ov kv:Value) (x:Itm) (w:World) (hS:StW w s fv sv ov kv) (hx:x.id.size ≤ maxLen ∧ x.kd.size ≤ maxLen) (hf:s.f.size ≤ 1000) (h1:s.store.length ≤ 1000) (h2:s.out.length ≤ 1000)
   (hk1:(zaf (zap s.k x.id s.r (s.count + 1)).l).length ≤ 10000) (hk2:s.k.l.length ≤ 10000) (hk3:(zaf s.k.l).length ≤ 10000) (hc:0 ≤ s.count ∧ s.count ≤ 1000) (ht:0 ≤ s.clock ∧ s.clock ≤ 1000000) :
   Calls Tryz.prog 101 #[stV s fv sv ov kv,iV x] w fun e w' =>
     (zbb s = true ∧ e = .returned (.tuple #[stV s fv sv ov kv,.int .i64 5]) ∧ Below w.heap.size w w') ∨
     (zbb s = false ∧ ∃ sv' ov' kv',e = .returned (.tuple #[stV (zay s x) fv sv' ov' kv',.int .i64 0]) ∧ StW w' (zay s x) fv sv' ov' kv' ∧ (RowF w' w.heap.size (zay s x).store sv' ∧ RowF w' w.heap.size (zay s x).out ov' ∧ FrFresh w' w.heap.size (zay s x).k.l kv') ∧ Below w.heap.size w w'):=by
 have OA:=y32h (((Own.new w (stA s fv sv ov kv) 43).alloc (.cells (iA x) 69)).alloc (.cells stZ.toArray 43))
 have OX:=y32h ((Own.newAt (w.alloc (.cells (stA s fv sv ov kv) 43)) (iA x) 69 (b:=w.heap.size + 1) (by simp)).alloc (.cells stZ.toArray 43))
 have OT:=y32h (Own.newAt ((w.alloc (.cells (stA s fv sv ov kv) 43)).alloc (.cells (iA x) 69)) stZ.toArray 43 (b:=w.heap.size + 1 + 1) (by simp))
 have BEL:=y32h ((((Below.refl w.heap.size w).alloc (Nat.le_refl _) (.cells (stA s fv sv ov kv) 43)).alloc (by simp) (.cells (iA x) 69)).alloc (by simp;omega) (.cells stZ.toArray 43))
 have HW:=y32h hS
 have hfv:fv.oneCell' = true:=zar hS.lf
 have hsv:sv.oneCell' = true:=by obtain ⟨_,_,_,_,e,_⟩:=hS.ls;rw [e];rfl
 have hov:ov.oneCell' = true:=by obtain ⟨_,_,_,_,e,_⟩:=hS.lo;rw [e];rfl
 have hkv:kv.oneCell' = true:=by obtain ⟨_,_,e⟩:=hS.lk.val;rw [e];rfl
 unfold Value.oneCell' at hfv hsv hov hkv
 clear hS
 have lOA:=OA.out.cell
 have zOA:=OA.out.lt
 by_cases hfull:s.count = 1000 ∨ s.clock = 1000000
 · have E:=y32h (show zbb s = true by
     unfold zbb
     rcases hfull with h | h
     · rw [decide_eq_true h];rfl
     · rw [decide_eq_true h];simp)
   have hways:(s.count == 1000) = true ∨ ((s.count == 1000) = false ∧ (s.clock == 1000000) = true):=by
     by_cases h:s.count = 1000
     · exact .inl (by rw [beq_iff_eq];exact h)
     · refine .inr ⟨by rw [beq_eq_false_iff_ne];exact h,?_⟩
       rw [beq_iff_eq]
       rcases hfull with h' | h'
       · exact absurd h' h
       · exact h'
   have HK:=y32h (And.intro (OT.out.sets (stA s fv sv ov kv).toList (by rfl)) (zab (b:=w.heap.size + 1 + 1) (by omega) (stA s fv sv ov kv).toList 0 BEL.out))
   have OAR:=y32h OA.out
   have OTR:=y32h OT.out
   clear hfull
   rcases hways with g1 | ⟨g1,g2⟩
   all_goals
     go_enter Tryz.func101,Tryz.ntmps101
     go_wp2_with (first | (refine wpList_load_mid (by rfl) 43 _ (by rfl) w.heap.size 0 (by rfl) (stA s fv sv ov kv).toList _ OAR.out.range Tryz.underlying43 (by rfl) (by kernel_rfl) ?_) | (refine wpList_store_mid (by rfl) 43 _ _ (by rfl) (w.heap.size + 1 + 1) 0 (stA s fv sv ov kv) (by rfl) (by rfl) (OTR.out.there (by rfl)) (by kernel_rfl) (by simp [Value.oneCell',hfv,hsv,hov,hkv]) ?_) | fail)
     revert HK
     generalize World.setCells _ _ _ _ = WW
     intro HK
     refine zae (by rfl) (by rfl) (by rfl) HK.out.1.range Tryz.underlying43 (by rfl) (by kernel_rfl) rfl (.inl ⟨E.out,rfl,HK.out.2⟩)
 · have E:=y32h (show zbb s = false by
     unfold zbb
     rw [decide_eq_false (fun h=>hfull (.inl h)),decide_eq_false (fun h=>hfull (.inr h))];rfl)
   have g1:(s.count == 1000) = false:=by rw [beq_eq_false_iff_ne];exact fun h=>hfull (.inl h)
   have g2:(s.clock == 1000000) = false:=by rw [beq_eq_false_iff_ne];exact fun h=>hfull (.inr h)
   have hc0:=hc.1
   have hc1:=hc.2
   have ht0:=ht.1
   have ht1:=ht.2
   clear hfull hc ht OA OX OT BEL lOA zOA
   have OA:=y32h (((Own.new w (stA (cntS s) fv sv ov kv) 43).alloc (.cells (iA (zak s x)) 69)).alloc (.cells stZ.toArray 43))
   have OX:=y32h ((Own.newAt (w.alloc (.cells (stA (cntS s) fv sv ov kv) 43)) (iA (zak s x)) 69 (b:=w.heap.size + 1) (by simp)).alloc (.cells stZ.toArray 43))
   have OT:=y32h (Own.newAt ((w.alloc (.cells (stA (cntS s) fv sv ov kv) 43)).alloc (.cells (iA (zak s x)) 69)) stZ.toArray 43 (b:=w.heap.size + 1 + 1) (by simp))
   have BEL:=y32h ((((Below.refl w.heap.size w).alloc (Nat.le_refl _) (.cells (stA (cntS s) fv sv ov kv) 43)).alloc (by simp) (.cells (iA (zak s x)) 69)).alloc (by simp;omega) (.cells stZ.toArray 43))
   have CO:=y32h (show Calls Tryz.prog 147 #[knV s.k.star kv,.string x.id,.agg #[.int .i64 s.r,.int .i64 (s.count + 1)]] (((w.alloc (.cells (stA (cntS s) fv sv ov kv) 43)).alloc (.cells (iA (zak s x)) 69)).alloc (.cells stZ.toArray 43)) (fun e w'=>∃ v',e = .returned (knV (ownK s.k x.id s.r (s.count + 1)).star v') ∧ FrFresh w' (((w.alloc (.cells (stA (cntS s) fv sv ov kv) 43)).alloc (.cells (iA (zak s x)) 69)).alloc (.cells stZ.toArray 43)).heap.size (zai (ownK s.k x.id s.r (s.count + 1))).l v' ∧ Below (((w.alloc (.cells (stA (cntS s) fv sv ov kv) 43)).alloc (.cells (iA (zak s x)) 69)).alloc (.cells stZ.toArray 43)).heap.size (((w.alloc (.cells (stA (cntS s) fv sv ov kv) 43)).alloc (.cells (iA (zak s x)) 69)).alloc (.cells stZ.toArray 43)) w') from zmv s.k x.id s.r (s.count + 1) kv (((w.alloc (.cells (stA (cntS s) fv sv ov kv) 43)).alloc (.cells (iA (zak s x)) 69)).alloc (.cells stZ.toArray 43)) (HW.out.lk.later BEL.out (Nat.le_refl _)) hx.1 hk1 hk2 hk3 (by omega))
   go_enter Tryz.func101,Tryz.ntmps101
   go_upto_region 8 with (first | (go_at_call 147;refine CO.out.mono ?_;rintro e w3 ⟨v3,rfl,hfr,hb⟩;obtain ⟨o3,c3,rfl⟩:=hfr.fr.val;have zW2:=y32h OA.out.lt;have HFR:=y32h hfr;replace OA:=y32h (OA.out.later hb);replace OX:=y32h (OX.out.later hb);replace OT:=y32h (OT.out.later hb);replace BEL:=y32h (BEL.out.trans (hb.mono BEL.out.size));clear hb hfr;have lOA:=OA.out.cell;have zOA:=OA.out.lt;have fOA:=OA.out.free;have lOX:=OX.out.cell;have zOX:=OX.out.lt;generalize hn3:(zai (ownK s.k x.id s.r (s.count + 1))).l.length = n3 at *) | fail)
   clear lOA zOA fOA lOX zOX CO
   have HP:=And.intro (z0k OA.out x (.slice o3 n3 c3)) (And.intro (ztf OX.out (show w.heap.size + 1 ≠ w.heap.size by omega) (.int .i64 ((ownK s.k x.id s.r (s.count + 1)).star 0)) (.int .i64 ((ownK s.k x.id s.r (s.count + 1)).star 1)) (.int .i64 ((ownK s.k x.id s.r (s.count + 1)).star 2)) (.int .i64 ((ownK s.k x.id s.r (s.count + 1)).star 3)) (.int .i64 ((ownK s.k x.id s.r (s.count + 1)).star 4)) (.int .i64 ((ownK s.k x.id s.r (s.count + 1)).star 5)) (.int .i64 ((ownK s.k x.id s.r (s.count + 1)).star 6)) (.int .i64 ((ownK s.k x.id s.r (s.count + 1)).star 7)) (.slice o3 n3 c3)) (And.intro (ztf OT.out (show w.heap.size + 1 + 1 ≠ w.heap.size by omega) (.int .i64 ((ownK s.k x.id s.r (s.count + 1)).star 0)) (.int .i64 ((ownK s.k x.id s.r (s.count + 1)).star 1)) (.int .i64 ((ownK s.k x.id s.r (s.count + 1)).star 2)) (.int .i64 ((ownK s.k x.id s.r (s.count + 1)).star 3)) (.int .i64 ((ownK s.k x.id s.r (s.count + 1)).star 4)) (.int .i64 ((ownK s.k x.id s.r (s.count + 1)).star 5)) (.int .i64 ((ownK s.k x.id s.r (s.count + 1)).star 6)) (.int .i64 ((ownK s.k x.id s.r (s.count + 1)).star 7)) (.slice o3 n3 c3)) (And.intro (znc BEL.out (Nat.le_refl _) (.int .i64 ((ownK s.k x.id s.r (s.count + 1)).star 0)) (.int .i64 ((ownK s.k x.id s.r (s.count + 1)).star 1)) (.int .i64 ((ownK s.k x.id s.r (s.count + 1)).star 2)) (.int .i64 ((ownK s.k x.id s.r (s.count + 1)).star 3)) (.int .i64 ((ownK s.k x.id s.r (s.count + 1)).star 4)) (.int .i64 ((ownK s.k x.id s.r (s.count + 1)).star 5)) (.int .i64 ((ownK s.k x.id s.r (s.count + 1)).star 6)) (.int .i64 ((ownK s.k x.id s.r (s.count + 1)).star 7)) (.slice o3 n3 c3)) (znw HFR.out zW2.out (.int .i64 ((ownK s.k x.id s.r (s.count + 1)).star 0)) (.int .i64 ((ownK s.k x.id s.r (s.count + 1)).star 1)) (.int .i64 ((ownK s.k x.id s.r (s.count + 1)).star 2)) (.int .i64 ((ownK s.k x.id s.r (s.count + 1)).star 3)) (.int .i64 ((ownK s.k x.id s.r (s.count + 1)).star 4)) (.int .i64 ((ownK s.k x.id s.r (s.count + 1)).star 5)) (.int .i64 ((ownK s.k x.id s.r (s.count + 1)).star 6)) (.int .i64 ((ownK s.k x.id s.r (s.count + 1)).star 7)) (.slice o3 n3 c3)))))
   clear OA OX OT BEL HFR zW2
   unfold zgv at HP
   revert HP
   generalize World.setCell (World.setCell (World.setCell (World.setCell (World.setCell (World.setCell (World.setCell (World.setCell (World.setCell _ _ _) _ _) _ _) _ _) _ _) _ _) _ _) _ _) _ _ = W4
   intro HP
   have OA:=y32h HP.1
   have OX:=y32h HP.2.1
   have OT:=y32h HP.2.2.1
   have BEL:=y32h HP.2.2.2.1
   have LKF:=y32h HP.2.2.2.2
   clear HP
   have L:=y32h (show Calls Tryz.prog 103 #[stV (preS s x) fv sv ov (.slice o3 n3 c3),iV (zak s x),.bool true] W4 (fun e w'=>∃ sv' ov',e = .returned (stV (zay s x) fv sv' ov' (.slice o3 n3 c3)) ∧ (StW w' (zay s x) fv sv' ov' (.slice o3 n3 c3) ∧ RowF w' W4.heap.size (zaq (preS s x) (zak s x)) sv' ∧ RowF w' W4.heap.size (laidOut (preS s x) (zak s x) true) ov') ∧ Below W4.heap.size W4 w') from zg7 (preS s x) fv sv ov (.slice o3 n3 c3) (zak s x) true W4 ⟨HW.out.lf.later BEL.out (Nat.le_refl _),HW.out.ls.later BEL.out,HW.out.lo.later BEL.out,LKF.out.fr⟩ hx hf h1 h2)
   have OAR:=y32h OA.out
   have lOX:=OX.out.cell
   have zOX:=OX.out.lt
   have zW4:=y32h OT.out.lt
   clear hx hf h1 h2 hk1 hk2 hk3
   go_wp2_with (first | (refine wpList_load_mid (by rfl) 43 _ (by rfl) w.heap.size 0 (by rfl) (stA (preS s x) fv sv ov (.slice o3 n3 c3)).toList _ OAR.out.range Tryz.underlying43 (by rfl) (by kernel_rfl) ?_) | (go_at_call 103;refine L.out.mono ?_;rintro e w5 ⟨sv',ov',rfl,⟨hst,hrs,hro⟩,hb⟩;have hsv2:sv'.oneCell' = true:=(by obtain ⟨_,_,_,_,e,_⟩:=hrs;rw [e];rfl);have hov2:ov'.oneCell' = true:=(by obtain ⟨_,_,_,_,e,_⟩:=hro;rw [e];rfl);unfold Value.oneCell' at hsv2 hov2;have HST:=y32h hst;have HRS:=y32h hrs;have HRO:=y32h hro;have OTR:=y32h (OT.out.later hb);have BE5:=y32h (BEL.out.trans (hb.mono BEL.out.size));have LK5:=y32h (LKF.out.stays hb);clear hst hrs hro hb lOX zOX) | (refine wpList_store_mid (by rfl) 43 _ _ (by rfl) (w.heap.size + 1 + 1) 0 (stA (zay s x) fv sv' ov' (.slice o3 n3 c3)) (by rfl) (by rfl) (OTR.out.there (by rfl)) (by kernel_rfl) (by simp [Value.oneCell',hfv,hsv2,hov2]) ?_) | fail)
   have HK:=y32h (And.intro (OTR.out.sets (stA (zay s x) fv sv' ov' (.slice o3 n3 c3)).toList (by rfl)) (And.intro (zab (b:=w.heap.size + 1 + 1) (by omega) (stA (zay s x) fv sv' ov' (.slice o3 n3 c3)).toList 0 BE5.out) (And.intro (RowF.sets (b:=w.heap.size + 1 + 1) zW4.out (stA (zay s x) fv sv' ov' (.slice o3 n3 c3)).toList 0 HRS.out) (And.intro (RowF.sets (b:=w.heap.size + 1 + 1) zW4.out (stA (zay s x) fv sv' ov' (.slice o3 n3 c3)).toList 0 HRO.out) (FrFresh.sets (b:=w.heap.size + 1 + 1) (by simp) (stA (zay s x) fv sv' ov' (.slice o3 n3 c3)).toList 0 LK5.out)))))
   clear OTR BE5 HRS HRO LK5 HST
   revert HK
   generalize World.setCells _ _ _ _ = WW
   intro HK
   have hle:w.heap.size ≤ W4.heap.size:=by have:=zW4.out;omega
   refine zae (by rfl) (by rfl) (by rfl) HK.out.1.range Tryz.underlying43 (by rfl) (by kernel_rfl) rfl (.inr ⟨E.out,sv',ov',.slice o3 n3 c3,rfl,⟨HW.out.lf.later HK.out.2.1 (Nat.le_refl _),HK.out.2.2.1.row,HK.out.2.2.2.1.row,HK.out.2.2.2.2.fr⟩,⟨HK.out.2.2.1.mono hle,HK.out.2.2.2.1.mono hle,HK.out.2.2.2.2.mono (by simp;omega)⟩,HK.out.2.1⟩)
end Go.Proofs.YthnllikalobmeaaGreat
