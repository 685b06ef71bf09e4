/- Joined: KCodeC. -/
import Derived.Test.YthnllikalobmeaaGreatJ36
namespace Go.Proofs.YthnllikalobmeaaGreat
set_option linter.unusedVariables false
set_option linter.unusedSimpArgs false
set_option maxRecDepth 100000
set_option maxHeartbeats 8000000
open Go.RowKit
theorem y40h {p:Prop} (h:p):Hid p:=Lib.hid h
theorem zwp (A:Nat → Int) (v:Value) {k:Nat} (hk:k < 8) (c:Int):(knA A v).setIfInBounds k (.int .i64 c) = knA (fun j=>if j = k then c else A j) v:=by
 obtain rfl | rfl | rfl | rfl | rfl | rfl | rfl | rfl:k = 0 ∨ k = 1 ∨ k = 2 ∨ k = 3 ∨ k = 4 ∨ k = 5 ∨ k = 6 ∨ k = 7:=by omega
 all_goals simp [knA]
theorem zjv (A:Nat → Int) (v:Value) {k:Nat} (hk:k < 8):(knA A v)[k]? = some (.int .i64 (A k)):=by
 obtain rfl | rfl | rfl | rfl | rfl | rfl | rfl | rfl:k = 0 ∨ k = 1 ∨ k = 2 ∨ k = 3 ∨ k = 4 ∨ k = 5 ∨ k = 6 ∨ k = 7:=by omega
 all_goals rfl
theorem zsk {A B:Nat → Int} (v:Value) (h:∀ j,j < 8 → A j = B j):knA A v = knA B v:=by
 simp only [knA,h 0 (by omega),h 1 (by omega),h 2 (by omega),h 3 (by omega),h 4 (by omega),h 5 (by omega),h 6 (by omega),h 7 (by omega)]
theorem ze3 {K:Kn} {id:ByteArray} {r c:Int} (h:(r < 1 ∨ 8 < r ∨ c < 1) ∨ K.star (r - 1).toNat ≠ c - 1):ownK K id r c = zap K id r c:=if_pos h
theorem zsl {K:Kn} {id:ByteArray} {k:Nat} {c:Int} (hk:k < 8) (hc:1 ≤ c) (he:K.star k = c - 1):ownK K id ((k:Int) + 1) c = ⟨zaw K.star ((k:Int) + 1) c,K.l⟩:=by
 unfold ownK
 rw [if_neg]
 rintro (h | h)
 · omega
 · rw [show ((k:Int) + 1 - 1).toNat = k by omega] at h
   exact h he
theorem zqo {A:Nat → Int} {k:Nat} {c:Int} (hk:k < 8) (he:A k = c - 1):∀ j,j < 8 → (if j = k then c else A j) = zaw A ((k:Int) + 1) c j:=by
 intro j hj
 unfold zaw
 rw [show ((k:Int) + 1 - 1).toNat = k by omega]
 by_cases e:j = k
 · subst e;rw [if_pos rfl,if_pos ⟨rfl,by omega,by omega,by omega⟩]
 · rw [if_neg e,if_neg (by omega)]
theorem zwq (A:Nat → Int) (l:List Fr) (id:ByteArray) (r c:Int) (h:r < 1) (ov:Option Addr) (cv:Nat) (w:World) (hR:FrW w l (.slice ov l.length cv)) (hid:id.size ≤ maxLen) (hl1:(zag (zap ⟨A,l⟩ id r c).l).length ≤ 10000) (hl2:l.length ≤ 10000) :
   Calls Tryz.prog 117 #[knV A (.slice ov l.length cv),.string id,.agg #[.int .i64 r,.int .i64 c]] w fun e w'=>∃ v',e = .returned (knV A v') ∧ FrFresh w' w.heap.size (zah (zap ⟨A,l⟩ id r c)).l v' ∧ Below w.heap.size w w':=by
 have CI:=fun w' h=>y40h (zc6 ⟨A,l⟩ id r c (.slice ov l.length cv) w' h hid hl1 hl2)
 have O1:=y40h (((Own.newAt w (knA A (.slice ov l.length cv)) 31 (b:=w.heap.size) (by first | rfl | simp)).alloc (.cells #[.int .i64 r,.int .i64 c] 67)).alloc (.cells #[.int .i64 0,.int .i64 0,.int .i64 0,.int .i64 0,.int .i64 0,.int .i64 0,.int .i64 0,.int .i64 0,.slice none 0 0] 31))
 have O2:=y40h ((Own.newAt (w.alloc (.cells (knA A (.slice ov l.length cv)) 31)) #[.int .i64 r,.int .i64 c] 67 (b:=w.heap.size + 1) (by first | rfl | simp)).alloc (.cells #[.int .i64 0,.int .i64 0,.int .i64 0,.int .i64 0,.int .i64 0,.int .i64 0,.int .i64 0,.int .i64 0,.slice none 0 0] 31))
 have O3:=y40h (Own.newAt ((w.alloc (.cells (knA A (.slice ov l.length cv)) 31)).alloc (.cells #[.int .i64 r,.int .i64 c] 67)) #[.int .i64 0,.int .i64 0,.int .i64 0,.int .i64 0,.int .i64 0,.int .i64 0,.int .i64 0,.int .i64 0,.slice none 0 0] 31 (b:=w.heap.size + 1 + 1) (by first | rfl | simp))
 have BE:=y40h ((((Below.refl w.heap.size w).alloc (by first | exact Nat.le_refl _ | (simp;omega) | simp) (.cells (knA A (.slice ov l.length cv)) 31)).alloc (by first | exact Nat.le_refl _ | (simp;omega) | simp) (.cells #[.int .i64 r,.int .i64 c] 67)).alloc (by first | exact Nat.le_refl _ | (simp;omega) | simp) (.cells #[.int .i64 0,.int .i64 0,.int .i64 0,.int .i64 0,.int .i64 0,.int .i64 0,.int .i64 0,.int .i64 0,.slice none 0 0] 31))
 have HR:=y40h (hR.later BE.out (Nat.le_refl _))
 clear hR hl1 hl2
 generalize (zah (zap ⟨A,l⟩ id r c)).l = res at *
 have g1:decide (r < 1) = true:=decide_eq_true h
 go_enter Tryz.func117,Tryz.ntmps117
 have LA:=fun dd os o=>O2.out.has.regrown dd os o
 have LB:=fun dd os o=>O1.out.has.regrown dd os o
 have z1:=O1.out.lt
 have z2:=O2.out.lt
 go_wp2_with fail
 refine wp_region_quiet_below (by kernel_rfl) (by kernel_rfl) ?_
 repeat (first | go_big_quiet_step (fail) | quiet_step (fail))
 refine wpQuiet_nil ?_
 intro w7 hw'
 have hb7:=zac hw'
 clear hw' LA LB z1 z2
 have P1:=y40h (O1.out.later hb7)
 have P2:=y40h (O2.out.later hb7)
 have P3:=y40h (O3.out.later hb7)
 have BE7:=y40h (BE.out.trans (hb7.mono BE.out.size))
 have HR7:=y40h (HR.out.later hb7 (Nat.le_refl _))
 clear O1 O2 O3 BE HR hb7
 have CIW:=CI w7 HR7.out
 have l1:=P1.out.cell
 have z1:=P1.out.lt
 have l2:=P2.out.cell
 have z2:=P2.out.lt
 go_wp2_with (go_at_call 99;refine CIW.out.mono ?_;rintro e w8 ⟨v8,rfl,hfr8,hb8⟩;obtain ⟨o8,c8,rfl⟩:=hfr8.fr.val;clear l1 z1 l2 z2;have O38:=y40h (P3.out.later hb8);have BE8:=y40h (BE7.out.trans (hb8.mono BE7.out.size));have l3:=O38.out.cell;have f3:=O38.out.free;have z3:=O38.out.lt;have z38:=y40h (P3.out.lt);have HFF:=y40h hfr8;clear hb8 hfr8;generalize res.length = n8 at *)
 clear l3 f3 z3
 have key:=And.intro (zb1 O38.out (.int .i64 (A 0)) (.int .i64 (A 1)) (.int .i64 (A 2)) (.int .i64 (A 3)) (.int .i64 (A 4)) (.int .i64 (A 5)) (.int .i64 (A 6)) (.int .i64 (A 7)) (.slice o8 n8 c8)) (And.intro (zbj (b:=w.heap.size + 1 + 1) BE8.out (by omega) (.int .i64 (A 0)) (.int .i64 (A 1)) (.int .i64 (A 2)) (.int .i64 (A 3)) (.int .i64 (A 4)) (.int .i64 (A 5)) (.int .i64 (A 6)) (.int .i64 (A 7)) (.slice o8 n8 c8)) (HFF.out.set9 z38.out (.int .i64 (A 0)) (.int .i64 (A 1)) (.int .i64 (A 2)) (.int .i64 (A 3)) (.int .i64 (A 4)) (.int .i64 (A 5)) (.int .i64 (A 6)) (.int .i64 (A 7)) (.slice o8 n8 c8)))
 have z37:=y40h (show w.heap.size ≤ _ from Nat.le_trans (by omega) (Nat.le_of_lt z38.out))
 clear O38 BE8 HFF z38
 unfold st9 st8 at key
 revert key
 generalize World.setCell (World.setCell (World.setCell (World.setCell (World.setCell (World.setCell (World.setCell (World.setCell (World.setCell _ _ _) _ _) _ _) _ _) _ _) _ _) _ _) _ _) _ _ = WW
 rintro ⟨of,bf,ff⟩
 have lf:=of.cell
 refine bodyPost_ret (v:=knV A (.slice o8 n8 c8)) (by simp [results,Tryz.results117,go_sem,lf]) rfl ⟨_,rfl,ff.mono z37.out,bf⟩
theorem zuj (A:Nat → Int) (l:List Fr) (id:ByteArray) (r c:Int) (h0:1 ≤ r) (h:8 < r) (ov:Option Addr) (cv:Nat) (w:World) (hR:FrW w l (.slice ov l.length cv)) (hid:id.size ≤ maxLen) (hl1:(zag (zap ⟨A,l⟩ id r c).l).length ≤ 10000) (hl2:l.length ≤ 10000) :
   Calls Tryz.prog 117 #[knV A (.slice ov l.length cv),.string id,.agg #[.int .i64 r,.int .i64 c]] w fun e w'=>∃ v',e = .returned (knV A v') ∧ FrFresh w' w.heap.size (zah (zap ⟨A,l⟩ id r c)).l v' ∧ Below w.heap.size w w':=by
 have CI:=fun w' h=>y40h (zc6 ⟨A,l⟩ id r c (.slice ov l.length cv) w' h hid hl1 hl2)
 have O1:=y40h (((Own.newAt w (knA A (.slice ov l.length cv)) 31 (b:=w.heap.size) (by first | rfl | simp)).alloc (.cells #[.int .i64 r,.int .i64 c] 67)).alloc (.cells #[.int .i64 0,.int .i64 0,.int .i64 0,.int .i64 0,.int .i64 0,.int .i64 0,.int .i64 0,.int .i64 0,.slice none 0 0] 31))
 have O2:=y40h ((Own.newAt (w.alloc (.cells (knA A (.slice ov l.length cv)) 31)) #[.int .i64 r,.int .i64 c] 67 (b:=w.heap.size + 1) (by first | rfl | simp)).alloc (.cells #[.int .i64 0,.int .i64 0,.int .i64 0,.int .i64 0,.int .i64 0,.int .i64 0,.int .i64 0,.int .i64 0,.slice none 0 0] 31))
 have O3:=y40h (Own.newAt ((w.alloc (.cells (knA A (.slice ov l.length cv)) 31)).alloc (.cells #[.int .i64 r,.int .i64 c] 67)) #[.int .i64 0,.int .i64 0,.int .i64 0,.int .i64 0,.int .i64 0,.int .i64 0,.int .i64 0,.int .i64 0,.slice none 0 0] 31 (b:=w.heap.size + 1 + 1) (by first | rfl | simp))
 have BE:=y40h ((((Below.refl w.heap.size w).alloc (by first | exact Nat.le_refl _ | (simp;omega) | simp) (.cells (knA A (.slice ov l.length cv)) 31)).alloc (by first | exact Nat.le_refl _ | (simp;omega) | simp) (.cells #[.int .i64 r,.int .i64 c] 67)).alloc (by first | exact Nat.le_refl _ | (simp;omega) | simp) (.cells #[.int .i64 0,.int .i64 0,.int .i64 0,.int .i64 0,.int .i64 0,.int .i64 0,.int .i64 0,.int .i64 0,.slice none 0 0] 31))
 have HR:=y40h (hR.later BE.out (Nat.le_refl _))
 clear hR hl1 hl2
 generalize (zah (zap ⟨A,l⟩ id r c)).l = res at *
 have g1:decide (r < 1) = false:=decide_eq_false (by omega)
 have g2:decide (8 < r) = true:=decide_eq_true h
 go_enter Tryz.func117,Tryz.ntmps117
 have LA:=fun dd os o=>O2.out.has.regrown dd os o
 have LB:=fun dd os o=>O1.out.has.regrown dd os o
 have z1:=O1.out.lt
 have z2:=O2.out.lt
 go_wp2_with fail
 refine wp_region_quiet_below (by kernel_rfl) (by kernel_rfl) ?_
 repeat (first | go_big_quiet_step (fail) | quiet_step (fail))
 refine wpQuiet_nil ?_
 intro w7 hw'
 have hb7:=zac hw'
 clear hw' LA LB z1 z2
 have P1:=y40h (O1.out.later hb7)
 have P2:=y40h (O2.out.later hb7)
 have P3:=y40h (O3.out.later hb7)
 have BE7:=y40h (BE.out.trans (hb7.mono BE.out.size))
 have HR7:=y40h (HR.out.later hb7 (Nat.le_refl _))
 clear O1 O2 O3 BE HR hb7
 have CIW:=CI w7 HR7.out
 have l1:=P1.out.cell
 have z1:=P1.out.lt
 have l2:=P2.out.cell
 have z2:=P2.out.lt
 go_wp2_with (go_at_call 99;refine CIW.out.mono ?_;rintro e w8 ⟨v8,rfl,hfr8,hb8⟩;obtain ⟨o8,c8,rfl⟩:=hfr8.fr.val;clear l1 z1 l2 z2;have O38:=y40h (P3.out.later hb8);have BE8:=y40h (BE7.out.trans (hb8.mono BE7.out.size));have l3:=O38.out.cell;have f3:=O38.out.free;have z3:=O38.out.lt;have z38:=y40h (P3.out.lt);have HFF:=y40h hfr8;clear hb8 hfr8;generalize res.length = n8 at *)
 clear l3 f3 z3
 have key:=And.intro (zb1 O38.out (.int .i64 (A 0)) (.int .i64 (A 1)) (.int .i64 (A 2)) (.int .i64 (A 3)) (.int .i64 (A 4)) (.int .i64 (A 5)) (.int .i64 (A 6)) (.int .i64 (A 7)) (.slice o8 n8 c8)) (And.intro (zbj (b:=w.heap.size + 1 + 1) BE8.out (by omega) (.int .i64 (A 0)) (.int .i64 (A 1)) (.int .i64 (A 2)) (.int .i64 (A 3)) (.int .i64 (A 4)) (.int .i64 (A 5)) (.int .i64 (A 6)) (.int .i64 (A 7)) (.slice o8 n8 c8)) (HFF.out.set9 z38.out (.int .i64 (A 0)) (.int .i64 (A 1)) (.int .i64 (A 2)) (.int .i64 (A 3)) (.int .i64 (A 4)) (.int .i64 (A 5)) (.int .i64 (A 6)) (.int .i64 (A 7)) (.slice o8 n8 c8)))
 have z37:=y40h (show w.heap.size ≤ _ from Nat.le_trans (by omega) (Nat.le_of_lt z38.out))
 clear O38 BE8 HFF z38
 unfold st9 st8 at key
 revert key
 generalize World.setCell (World.setCell (World.setCell (World.setCell (World.setCell (World.setCell (World.setCell (World.setCell (World.setCell _ _ _) _ _) _ _) _ _) _ _) _ _) _ _) _ _) _ _ = WW
 rintro ⟨of,bf,ff⟩
 have lf:=of.cell
 refine bodyPost_ret (v:=knV A (.slice o8 n8 c8)) (by simp [results,Tryz.results117,go_sem,lf]) rfl ⟨_,rfl,ff.mono z37.out,bf⟩
theorem zul (A:Nat → Int) (l:List Fr) (id:ByteArray) (r c:Int) (h0:1 ≤ r) (h1:r ≤ 8) (h:c < 1) (ov:Option Addr) (cv:Nat) (w:World) (hR:FrW w l (.slice ov l.length cv)) (hid:id.size ≤ maxLen) (hl1:(zag (zap ⟨A,l⟩ id r c).l).length ≤ 10000) (hl2:l.length ≤ 10000) :
   Calls Tryz.prog 117 #[knV A (.slice ov l.length cv),.string id,.agg #[.int .i64 r,.int .i64 c]] w fun e w'=>∃ v',e = .returned (knV A v') ∧ FrFresh w' w.heap.size (zah (zap ⟨A,l⟩ id r c)).l v' ∧ Below w.heap.size w w':=by
 have CI:=fun w' h=>y40h (zc6 ⟨A,l⟩ id r c (.slice ov l.length cv) w' h hid hl1 hl2)
 have O1:=y40h (((Own.newAt w (knA A (.slice ov l.length cv)) 31 (b:=w.heap.size) (by first | rfl | simp)).alloc (.cells #[.int .i64 r,.int .i64 c] 67)).alloc (.cells #[.int .i64 0,.int .i64 0,.int .i64 0,.int .i64 0,.int .i64 0,.int .i64 0,.int .i64 0,.int .i64 0,.slice none 0 0] 31))
 have O2:=y40h ((Own.newAt (w.alloc (.cells (knA A (.slice ov l.length cv)) 31)) #[.int .i64 r,.int .i64 c] 67 (b:=w.heap.size + 1) (by first | rfl | simp)).alloc (.cells #[.int .i64 0,.int .i64 0,.int .i64 0,.int .i64 0,.int .i64 0,.int .i64 0,.int .i64 0,.int .i64 0,.slice none 0 0] 31))
 have O3:=y40h (Own.newAt ((w.alloc (.cells (knA A (.slice ov l.length cv)) 31)).alloc (.cells #[.int .i64 r,.int .i64 c] 67)) #[.int .i64 0,.int .i64 0,.int .i64 0,.int .i64 0,.int .i64 0,.int .i64 0,.int .i64 0,.int .i64 0,.slice none 0 0] 31 (b:=w.heap.size + 1 + 1) (by first | rfl | simp))
 have BE:=y40h ((((Below.refl w.heap.size w).alloc (by first | exact Nat.le_refl _ | (simp;omega) | simp) (.cells (knA A (.slice ov l.length cv)) 31)).alloc (by first | exact Nat.le_refl _ | (simp;omega) | simp) (.cells #[.int .i64 r,.int .i64 c] 67)).alloc (by first | exact Nat.le_refl _ | (simp;omega) | simp) (.cells #[.int .i64 0,.int .i64 0,.int .i64 0,.int .i64 0,.int .i64 0,.int .i64 0,.int .i64 0,.int .i64 0,.slice none 0 0] 31))
 have HR:=y40h (hR.later BE.out (Nat.le_refl _))
 clear hR hl1 hl2
 generalize (zah (zap ⟨A,l⟩ id r c)).l = res at *
 have g1:decide (r < 1) = false:=decide_eq_false (by omega)
 have g2:decide (8 < r) = false:=decide_eq_false (by omega)
 have g3:decide (c < 1) = true:=decide_eq_true h
 go_enter Tryz.func117,Tryz.ntmps117
 have LA:=fun dd os o=>O2.out.has.regrown dd os o
 have LB:=fun dd os o=>O1.out.has.regrown dd os o
 have z1:=O1.out.lt
 have z2:=O2.out.lt
 go_wp2_with fail
 refine wp_region_quiet_below (by kernel_rfl) (by kernel_rfl) ?_
 repeat (first | go_big_quiet_step (fail) | quiet_step (fail))
 refine wpQuiet_nil ?_
 intro w7 hw'
 have hb7:=zac hw'
 clear hw' LA LB z1 z2
 have P1:=y40h (O1.out.later hb7)
 have P2:=y40h (O2.out.later hb7)
 have P3:=y40h (O3.out.later hb7)
 have BE7:=y40h (BE.out.trans (hb7.mono BE.out.size))
 have HR7:=y40h (HR.out.later hb7 (Nat.le_refl _))
 clear O1 O2 O3 BE HR hb7
 have CIW:=CI w7 HR7.out
 have l1:=P1.out.cell
 have z1:=P1.out.lt
 have l2:=P2.out.cell
 have z2:=P2.out.lt
 go_wp2_with (go_at_call 99;refine CIW.out.mono ?_;rintro e w8 ⟨v8,rfl,hfr8,hb8⟩;obtain ⟨o8,c8,rfl⟩:=hfr8.fr.val;clear l1 z1 l2 z2;have O38:=y40h (P3.out.later hb8);have BE8:=y40h (BE7.out.trans (hb8.mono BE7.out.size));have l3:=O38.out.cell;have f3:=O38.out.free;have z3:=O38.out.lt;have z38:=y40h (P3.out.lt);have HFF:=y40h hfr8;clear hb8 hfr8;generalize res.length = n8 at *)
 clear l3 f3 z3
 have key:=And.intro (zb1 O38.out (.int .i64 (A 0)) (.int .i64 (A 1)) (.int .i64 (A 2)) (.int .i64 (A 3)) (.int .i64 (A 4)) (.int .i64 (A 5)) (.int .i64 (A 6)) (.int .i64 (A 7)) (.slice o8 n8 c8)) (And.intro (zbj (b:=w.heap.size + 1 + 1) BE8.out (by omega) (.int .i64 (A 0)) (.int .i64 (A 1)) (.int .i64 (A 2)) (.int .i64 (A 3)) (.int .i64 (A 4)) (.int .i64 (A 5)) (.int .i64 (A 6)) (.int .i64 (A 7)) (.slice o8 n8 c8)) (HFF.out.set9 z38.out (.int .i64 (A 0)) (.int .i64 (A 1)) (.int .i64 (A 2)) (.int .i64 (A 3)) (.int .i64 (A 4)) (.int .i64 (A 5)) (.int .i64 (A 6)) (.int .i64 (A 7)) (.slice o8 n8 c8)))
 have z37:=y40h (show w.heap.size ≤ _ from Nat.le_trans (by omega) (Nat.le_of_lt z38.out))
 clear O38 BE8 HFF z38
 unfold st9 st8 at key
 revert key
 generalize World.setCell (World.setCell (World.setCell (World.setCell (World.setCell (World.setCell (World.setCell (World.setCell (World.setCell _ _ _) _ _) _ _) _ _) _ _) _ _) _ _) _ _) _ _ = WW
 rintro ⟨of,bf,ff⟩
 have lf:=of.cell
 refine bodyPost_ret (v:=knV A (.slice o8 n8 c8)) (by simp [results,Tryz.results117,go_sem,lf]) rfl ⟨_,rfl,ff.mono z37.out,bf⟩
theorem zsm (A:Nat → Int) (l:List Fr) (id:ByteArray) (k:Nat) (c:Int) (hk:k < 8) (h0:1 ≤ c) (hcw:c ≤ 9223372036854775807) (h:A k ≠ c - 1) (ov:Option Addr) (cv:Nat) (w:World) (hR:FrW w l (.slice ov l.length cv)) (hid:id.size ≤ maxLen) (hl1:(zag (zap ⟨A,l⟩ id ((k:Int) + 1) c).l).length ≤ 10000) (hl2:l.length ≤ 10000) :
   Calls Tryz.prog 117 #[knV A (.slice ov l.length cv),.string id,.agg #[.int .i64 ((k:Int) + 1),.int .i64 c]] w fun e w'=>∃ v',e = .returned (knV A v') ∧ FrFresh w' w.heap.size (zah (zap ⟨A,l⟩ id ((k:Int) + 1) c)).l v' ∧ Below w.heap.size w w':=by
 have CI:=fun w' h=>y40h (zc6 ⟨A,l⟩ id ((k:Int) + 1) c (.slice ov l.length cv) w' h hid hl1 hl2)
 have O1:=y40h (((Own.newAt w (knA A (.slice ov l.length cv)) 31 (b:=w.heap.size) (by first | rfl | simp)).alloc (.cells #[.int .i64 ((k:Int) + 1),.int .i64 c] 67)).alloc (.cells #[.int .i64 0,.int .i64 0,.int .i64 0,.int .i64 0,.int .i64 0,.int .i64 0,.int .i64 0,.int .i64 0,.slice none 0 0] 31))
 have O2:=y40h ((Own.newAt (w.alloc (.cells (knA A (.slice ov l.length cv)) 31)) #[.int .i64 ((k:Int) + 1),.int .i64 c] 67 (b:=w.heap.size + 1) (by first | rfl | simp)).alloc (.cells #[.int .i64 0,.int .i64 0,.int .i64 0,.int .i64 0,.int .i64 0,.int .i64 0,.int .i64 0,.int .i64 0,.slice none 0 0] 31))
 have O3:=y40h (Own.newAt ((w.alloc (.cells (knA A (.slice ov l.length cv)) 31)).alloc (.cells #[.int .i64 ((k:Int) + 1),.int .i64 c] 67)) #[.int .i64 0,.int .i64 0,.int .i64 0,.int .i64 0,.int .i64 0,.int .i64 0,.int .i64 0,.int .i64 0,.slice none 0 0] 31 (b:=w.heap.size + 1 + 1) (by first | rfl | simp))
 have BE:=y40h ((((Below.refl w.heap.size w).alloc (by first | exact Nat.le_refl _ | (simp;omega) | simp) (.cells (knA A (.slice ov l.length cv)) 31)).alloc (by first | exact Nat.le_refl _ | (simp;omega) | simp) (.cells #[.int .i64 ((k:Int) + 1),.int .i64 c] 67)).alloc (by first | exact Nat.le_refl _ | (simp;omega) | simp) (.cells #[.int .i64 0,.int .i64 0,.int .i64 0,.int .i64 0,.int .i64 0,.int .i64 0,.int .i64 0,.int .i64 0,.slice none 0 0] 31))
 have HR:=y40h (hR.later BE.out (Nat.le_refl _))
 clear hR hl1 hl2
 generalize (zah (zap ⟨A,l⟩ id ((k:Int) + 1) c)).l = res at *
 have g1:decide ((k:Int) + 1 < 1) = false:=decide_eq_false (by omega)
 have g2:decide (8 < (k:Int) + 1) = false:=decide_eq_false (by omega)
 have g3:decide (c < 1) = false:=decide_eq_false (by omega)
 have gk:(k:Int) + 1 - 1 = (k:Int):=by omega
 have k0:(0:Int) ≤ (k:Int):=by omega
 have k1:(k:Int) < 8:=by omega
 have g4:(A k == c - 1) = false:=by rw [beq_eq_false_iff_ne];exact h
 go_enter Tryz.func117,Tryz.ntmps117
 have LA:=fun dd os o=>O2.out.has.regrown dd os o
 have LB:=fun dd os o=>O1.out.has.regrown dd os o
 have z1:=O1.out.lt
 have z2:=O2.out.lt
 have LC:=fun dd os=>(LB dd os k).trans (zjv A (.slice ov l.length cv) hk)
 clear LB
 go_wp2_with fail
 refine wp_region_quiet_below (by kernel_rfl) (by kernel_rfl) ?_
 repeat (first | go_big_quiet_step (fail) | quiet_step (fail))
 refine wpQuiet_nil ?_
 intro w7 hw'
 have hb7:=zac hw'
 clear hw' LA LC z1 z2
 have P1:=y40h (O1.out.later hb7)
 have P2:=y40h (O2.out.later hb7)
 have P3:=y40h (O3.out.later hb7)
 have BE7:=y40h (BE.out.trans (hb7.mono BE.out.size))
 have HR7:=y40h (HR.out.later hb7 (Nat.le_refl _))
 clear O1 O2 O3 BE HR hb7
 have CIW:=CI w7 HR7.out
 have l1:=P1.out.cell
 have z1:=P1.out.lt
 have l2:=P2.out.cell
 have z2:=P2.out.lt
 go_wp2_with (go_at_call 99;refine CIW.out.mono ?_;rintro e w8 ⟨v8,rfl,hfr8,hb8⟩;obtain ⟨o8,c8,rfl⟩:=hfr8.fr.val;clear l1 z1 l2 z2;have O38:=y40h (P3.out.later hb8);have BE8:=y40h (BE7.out.trans (hb8.mono BE7.out.size));have l3:=O38.out.cell;have f3:=O38.out.free;have z3:=O38.out.lt;have z38:=y40h (P3.out.lt);have HFF:=y40h hfr8;clear hb8 hfr8;generalize res.length = n8 at *)
 clear l3 f3 z3
 have key:=And.intro (zb1 O38.out (.int .i64 (A 0)) (.int .i64 (A 1)) (.int .i64 (A 2)) (.int .i64 (A 3)) (.int .i64 (A 4)) (.int .i64 (A 5)) (.int .i64 (A 6)) (.int .i64 (A 7)) (.slice o8 n8 c8)) (And.intro (zbj (b:=w.heap.size + 1 + 1) BE8.out (by omega) (.int .i64 (A 0)) (.int .i64 (A 1)) (.int .i64 (A 2)) (.int .i64 (A 3)) (.int .i64 (A 4)) (.int .i64 (A 5)) (.int .i64 (A 6)) (.int .i64 (A 7)) (.slice o8 n8 c8)) (HFF.out.set9 z38.out (.int .i64 (A 0)) (.int .i64 (A 1)) (.int .i64 (A 2)) (.int .i64 (A 3)) (.int .i64 (A 4)) (.int .i64 (A 5)) (.int .i64 (A 6)) (.int .i64 (A 7)) (.slice o8 n8 c8)))
 have z37:=y40h (show w.heap.size ≤ _ from Nat.le_trans (by omega) (Nat.le_of_lt z38.out))
 clear O38 BE8 HFF z38
 unfold st9 st8 at key
 revert key
 generalize World.setCell (World.setCell (World.setCell (World.setCell (World.setCell (World.setCell (World.setCell (World.setCell (World.setCell _ _ _) _ _) _ _) _ _) _ _) _ _) _ _) _ _) _ _ = WW
 rintro ⟨of,bf,ff⟩
 have lf:=of.cell
 refine bodyPost_ret (v:=knV A (.slice o8 n8 c8)) (by simp [results,Tryz.results117,go_sem,lf]) rfl ⟨_,rfl,ff.mono z37.out,bf⟩
theorem zuk (A:Nat → Int) (l:List Fr) (id:ByteArray) (k:Nat) (c:Int) (hk:k < 8) (h0:1 ≤ c) (hcw:c ≤ 9223372036854775807) (h:A k = c - 1) (ov:Option Addr) (cv:Nat) (w:World) (hR:FrW w l (.slice ov l.length cv)) (hl3:(zag l).length ≤ 10000) :
   Calls Tryz.prog 117 #[knV A (.slice ov l.length cv),.string id,.agg #[.int .i64 ((k:Int) + 1),.int .i64 c]] w fun e w'=>∃ v',e = .returned (knV (zaw A ((k:Int) + 1) c) v') ∧ FrFresh w' w.heap.size (zah ⟨zaw A ((k:Int) + 1) c,l⟩).l v' ∧ Below w.heap.size w w':=by
 have CP:=fun w' h=>y40h (zdu ⟨zaw A ((k:Int) + 1) c,l⟩ (.slice ov l.length cv) w' h hl3)
 have O1:=y40h (((Own.newAt w (knA A (.slice ov l.length cv)) 31 (b:=w.heap.size) (by first | rfl | simp)).alloc (.cells #[.int .i64 ((k:Int) + 1),.int .i64 c] 67)).alloc (.cells #[.int .i64 0,.int .i64 0,.int .i64 0,.int .i64 0,.int .i64 0,.int .i64 0,.int .i64 0,.int .i64 0,.slice none 0 0] 31))
 have O2:=y40h ((Own.newAt (w.alloc (.cells (knA A (.slice ov l.length cv)) 31)) #[.int .i64 ((k:Int) + 1),.int .i64 c] 67 (b:=w.heap.size + 1) (by first | rfl | simp)).alloc (.cells #[.int .i64 0,.int .i64 0,.int .i64 0,.int .i64 0,.int .i64 0,.int .i64 0,.int .i64 0,.int .i64 0,.slice none 0 0] 31))
 have O3:=y40h (Own.newAt ((w.alloc (.cells (knA A (.slice ov l.length cv)) 31)).alloc (.cells #[.int .i64 ((k:Int) + 1),.int .i64 c] 67)) #[.int .i64 0,.int .i64 0,.int .i64 0,.int .i64 0,.int .i64 0,.int .i64 0,.int .i64 0,.int .i64 0,.slice none 0 0] 31 (b:=w.heap.size + 1 + 1) (by first | rfl | simp))
 have BE:=y40h ((((Below.refl w.heap.size w).alloc (by first | exact Nat.le_refl _ | (simp;omega) | simp) (.cells (knA A (.slice ov l.length cv)) 31)).alloc (by first | exact Nat.le_refl _ | (simp;omega) | simp) (.cells #[.int .i64 ((k:Int) + 1),.int .i64 c] 67)).alloc (by first | exact Nat.le_refl _ | (simp;omega) | simp) (.cells #[.int .i64 0,.int .i64 0,.int .i64 0,.int .i64 0,.int .i64 0,.int .i64 0,.int .i64 0,.int .i64 0,.slice none 0 0] 31))
 have HRW:=y40h hR
 have HB:=y40h (zqo hk h)
 clear hR
 have HSET:=y40h (fun B (hB:B = zaw A ((k:Int) + 1) c)=>(show (knA A (.slice ov l.length cv)).setIfInBounds k (.int .i64 c) = knA B (.slice ov l.length cv) by subst hB;exact (zwp A (.slice ov l.length cv) hk c).trans (zsk (.slice ov l.length cv) HB.out)))
 generalize hBB:zaw A ((k:Int) + 1) c = B at *
 have HBB:=y40h hBB
 clear hBB
 generalize (zah ⟨B,l⟩).l = res at *
 have g1:decide ((k:Int) + 1 < 1) = false:=decide_eq_false (by omega)
 have g2:decide (8 < (k:Int) + 1) = false:=decide_eq_false (by omega)
 have g3:decide (c < 1) = false:=decide_eq_false (by omega)
 have gk:(k:Int) + 1 - 1 = (k:Int):=by omega
 have k0:(0:Int) ≤ (k:Int):=by omega
 have k1:(k:Int) < 8:=by omega
 have g4:(A k == c - 1) = true:=by rw [beq_iff_eq];exact h
 go_enter Tryz.func117,Tryz.ntmps117
 have LA:=fun dd os o=>O2.out.has.regrown dd os o
 have LC:=fun dd os=>(O1.out.has.regrown dd os k).trans (zjv A (.slice ov l.length cv) hk)
 have z1:=O1.out.lt
 have z2:=O2.out.lt
 go_wp2_with fail
 refine wp_region_quiet_below (by kernel_rfl) (by kernel_rfl) ?_
 repeat (first | go_big_quiet_step (fail) | quiet_step (fail))
 refine wpQuiet_nil ?_
 intro w7 hw'
 have hb7:=zac hw'
 clear hw' LA LC z1 z2
 have P1:=y40h (O1.out.later hb7)
 have P2:=y40h (O2.out.later hb7)
 have P3:=y40h (O3.out.later hb7)
 have BE7:=y40h (BE.out.trans (hb7.mono BE.out.size))
 clear O1 O2 O3 BE hb7
 have ck:=(P1.out.cell k).trans (zjv A (.slice ov l.length cv) hk)
 have fk:=P1.out.free k
 have z1:=P1.out.lt
 have l2:=P2.out.cell
 have z2:=P2.out.lt
 go_upto_region 4 with fail
 have Q1:=y40h (show Own (w7.setCell ⟨w.heap.size,k,none⟩ (.int .i64 c)) w.heap.size (knA B (.slice ov l.length cv)) 31 by rw [← HSET.out B rfl];exact P1.out.set k _)
 have Q3:=y40h (P3.out.setFar ⟨w.heap.size,k,none⟩ (.int .i64 c) (by show w.heap.size + 1 + 1 ≠ w.heap.size;omega))
 have BQ:=y40h (BE7.out.setCell (p:=⟨w.heap.size,k,none⟩) (Nat.le_refl _) (.int .i64 c))
 clear P1 P2 P3 BE7 ck fk z1 l2 z2 HSET HB
 generalize w7.setCell ⟨w.heap.size,k,none⟩ (.int .i64 c) = W7 at *
 have CPW:=CP W7 (HRW.out.later BQ.out (Nat.le_refl _))
 have l1:=Q1.out.cell
 have z1:=Q1.out.lt
 go_wp2_with (go_at_call 81;refine CPW.out.mono ?_;rintro e w8 ⟨v8,rfl,hfr8,hb8⟩;obtain ⟨o8,c8,rfl⟩:=hfr8.fr.val;clear l1 z1;have O38:=y40h (Q3.out.later hb8);have BE8:=y40h (BQ.out.trans (hb8.mono BQ.out.size));have l3:=O38.out.cell;have f3:=O38.out.free;have z3:=O38.out.lt;have z38:=y40h (Q3.out.lt);have HFF:=y40h hfr8;clear hb8 hfr8;generalize res.length = n8 at *)
 clear l3 f3 z3
 have key:=And.intro (zb1 O38.out (.int .i64 (B 0)) (.int .i64 (B 1)) (.int .i64 (B 2)) (.int .i64 (B 3)) (.int .i64 (B 4)) (.int .i64 (B 5)) (.int .i64 (B 6)) (.int .i64 (B 7)) (.slice o8 n8 c8)) (And.intro (zbj (b:=w.heap.size + 1 + 1) BE8.out (by omega) (.int .i64 (B 0)) (.int .i64 (B 1)) (.int .i64 (B 2)) (.int .i64 (B 3)) (.int .i64 (B 4)) (.int .i64 (B 5)) (.int .i64 (B 6)) (.int .i64 (B 7)) (.slice o8 n8 c8)) (HFF.out.set9 z38.out (.int .i64 (B 0)) (.int .i64 (B 1)) (.int .i64 (B 2)) (.int .i64 (B 3)) (.int .i64 (B 4)) (.int .i64 (B 5)) (.int .i64 (B 6)) (.int .i64 (B 7)) (.slice o8 n8 c8)))
 have z37:=y40h (show w.heap.size ≤ _ from Nat.le_trans (by omega) (Nat.le_of_lt z38.out))
 clear O38 BE8 HFF z38
 unfold st9 st8 at key
 revert key
 generalize World.setCell (World.setCell (World.setCell (World.setCell (World.setCell (World.setCell (World.setCell (World.setCell (World.setCell _ _ _) _ _) _ _) _ _) _ _) _ _) _ _) _ _) _ _ = WW
 rintro ⟨of,bf,ff⟩
 have lf:=of.cell
 refine bodyPost_ret (v:=knV B (.slice o8 n8 c8)) (by simp [results,Tryz.results117,go_sem,lf]) rfl ⟨_,rfl,ff.mono z37.out,bf⟩
theorem zm2 (K:Kn) (id:ByteArray) (r c:Int) (v:Value) (w:World) (hR:FrW w K.l v) (hid:id.size ≤ maxLen) (hl1:(zag (zap K id r c).l).length ≤ 10000) (hl2:K.l.length ≤ 10000) (hl3:(zag K.l).length ≤ 10000) (hcw:c ≤ 9223372036854775807) :
   Calls Tryz.prog 117 #[knV K.star v,.string id,.agg #[.int .i64 r,.int .i64 c]] w fun e w'=>∃ v',e = .returned (knV (ownK K id r c).star v') ∧ FrFresh w' w.heap.size (zah (ownK K id r c)).l v' ∧ Below w.heap.size w w':=by
 obtain ⟨ov,cv,rfl⟩:=hR.val
 obtain ⟨A,l⟩:=K
 simp only at *
 by_cases h1:r < 1
 · rw [ze3 (.inl (.inl h1))]
   exact zwq A l id r c h1 ov cv w hR hid hl1 hl2
 by_cases h2:8 < r
 · rw [ze3 (.inl (.inr (.inl h2)))]
   exact zuj A l id r c (by omega) h2 ov cv w hR hid hl1 hl2
 by_cases h3:c < 1
 · rw [ze3 (.inl (.inr (.inr h3)))]
   exact zul A l id r c (by omega) (by omega) h3 ov cv w hR hid hl1 hl2
 obtain ⟨k,rfl⟩:∃ k:Nat,r = (k:Int) + 1:=⟨(r - 1).toNat,by omega⟩
 by_cases h4:A k = c - 1
 · rw [zsl (K:=⟨A,l⟩) (by omega) (by omega) h4]
   exact zuk A l id k c (by omega) (by omega) hcw h4 ov cv w hR hl3
 · rw [ze3 (K:=⟨A,l⟩) (.inr (by rw [show ((k:Int) + 1 - 1).toNat = k by omega];exact h4))]
   exact zsm A l id k c (by omega) (by omega) hcw h4 ov cv w hR hid hl1 hl2
end Go.Proofs.YthnllikalobmeaaGreat
