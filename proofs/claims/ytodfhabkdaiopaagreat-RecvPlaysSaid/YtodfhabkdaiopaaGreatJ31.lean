/- Joined: KCodeD, KCodeC, RefSt1, OpenRd. -/
import Derived.Test.YtodfhabkdaiopaaGreatJ30
import Derived.Test.YtodfhabkdaiopaaGreatJ29
import Derived.Deep.RegionHeld3
import Derived.Deep.RegionLaw
import Derived.Test.YtodfhabkdaiopaaGreatJ24
import Derived.Test.YtodfhabkdaiopaaGreatJ15
import Derived.Test.YtodfhabkdaiopaaGreatJ11
import Derived.Deep.CutBlock
import Derived.Deep.DeepCutAuto
import Derived.Test.YtodfhabkdaiopaaGreatJ28
import Derived.Test.YtodfhabkdaiopaaGreatJ23
namespace Go.Proofs.YtodfhabkdaiopaaGreat
set_option linter.unusedVariables false
set_option linter.unusedSimpArgs false
set_option maxRecDepth 100000
set_option maxHeartbeats 8000000
open Go.RowKit
theorem y31h {p:Prop} (h:p):Go.RowKit.Hid p:=Lib.hid h
theorem zv6 (A:Nat→Int) (v:Value) {k:Nat} (hk:k < 8) (c:Int):(knA A v).setIfInBounds k (.int .i64 c)=knA (fun j=>if j=k then c else A j) v:=by
 obtain rfl | rfl | rfl | rfl | rfl | rfl | rfl | rfl:k=0 ∨ k=1 ∨ k=2 ∨ k=3 ∨ k=4 ∨ k=5 ∨ k=6 ∨ k=7:=by omega
 all_goals simp [knA]
theorem zj1 (A:Nat→Int) (v:Value) {k:Nat} (hk:k < 8):(knA A v)[k]?=some (.int .i64 (A k)):=by
 obtain rfl | rfl | rfl | rfl | rfl | rfl | rfl | rfl:k=0 ∨ k=1 ∨ k=2 ∨ k=3 ∨ k=4 ∨ k=5 ∨ k=6 ∨ k=7:=by omega
 all_goals rfl
theorem zrx {A B:Nat→Int} (v:Value) (h:∀ j,j < 8→A j=B j):knA A v=knA B v:=by
 simp only [knA,h 0 (by omega),h 1 (by omega),h 2 (by omega),h 3 (by omega),h 4 (by omega),h 5 (by omega),h 6 (by omega),h 7 (by omega)]
theorem zfc {K:Kn} {id:ByteArray} {r c:Int} (h:(r < 1 ∨ 8 < r ∨ c < 1) ∨ K.star (r - 1).toNat ≠ c - 1):ownK K id r c=zal K id r c:=if_pos h
theorem zry {K:Kn} {id:ByteArray} {k:Nat} {c:Int} (hk:k < 8) (hc:1≤c) (he:K.star k=c - 1):ownK K id ((k:Int) + 1) c=⟨zav K.star ((k:Int) + 1) c,K.l⟩:=by
 unfold ownK
 rw [if_neg]
 rintro (h | h)
 · omega
 · rw [show ((k:Int) + 1 - 1).toNat=k by omega] at h
   exact h he
theorem zp2 {A:Nat→Int} {k:Nat} {c:Int} (hk:k < 8) (he:A k=c - 1):∀ j,j < 8→(if j=k then c else A j)=zav A ((k:Int) + 1) c j:=by
 intro j hj
 unfold zav
 rw [show ((k:Int) + 1 - 1).toNat=k by omega]
 by_cases e:j=k
 · subst e;rw [if_pos rfl,if_pos ⟨rfl,by omega,by omega,by omega⟩]
 · rw [if_neg e,if_neg (by omega)]
theorem zv7 (A:Nat→Int) (l:List Fr) (id:ByteArray) (r c:Int) (h:r < 1) (ov:Option Addr) (cv:Nat) (w:World) (hR:FrW w l (.slice ov l.length cv)) (hid:id.size≤maxLen) (hl1:(zaf (zal ⟨A,l⟩ id r c).l).length≤10000) (hl2:l.length≤10000) :
   Calls Tryz.prog 207 #[knV A (.slice ov l.length cv),.string id,.agg #[.int .i64 r,.int .i64 c]] w fun e w'=>∃ v',e=.returned (knV A v')∧FrFresh w' w.heap.size (zah (zal ⟨A,l⟩ id r c)).l v'∧Below w.heap.size w w':=by
 have CI:=fun w' h=>y31h (zcp ⟨A,l⟩ id r c (.slice ov l.length cv) w' h hid hl1 hl2)
 have O1:=y31h (((Own.newAt w (knA A (.slice ov l.length cv)) 38 (b:=w.heap.size) (by first | rfl | simp)).alloc (.cells #[.int .i64 r,.int .i64 c] 52)).alloc (.cells #[.int .i64 0,.int .i64 0,.int .i64 0,.int .i64 0,.int .i64 0,.int .i64 0,.int .i64 0,.int .i64 0,.slice none 0 0] 38))
 have O2:=y31h ((Own.newAt (w.alloc (.cells (knA A (.slice ov l.length cv)) 38)) #[.int .i64 r,.int .i64 c] 52 (b:=w.heap.size + 1) (by first | rfl | simp)).alloc (.cells #[.int .i64 0,.int .i64 0,.int .i64 0,.int .i64 0,.int .i64 0,.int .i64 0,.int .i64 0,.int .i64 0,.slice none 0 0] 38))
 have O3:=y31h (Own.newAt ((w.alloc (.cells (knA A (.slice ov l.length cv)) 38)).alloc (.cells #[.int .i64 r,.int .i64 c] 52)) #[.int .i64 0,.int .i64 0,.int .i64 0,.int .i64 0,.int .i64 0,.int .i64 0,.int .i64 0,.int .i64 0,.slice none 0 0] 38 (b:=w.heap.size + 1 + 1) (by first | rfl | simp))
 have BE:=y31h ((((Below.refl w.heap.size w).alloc (by first | exact Nat.le_refl _ | (simp;omega) | simp) (.cells (knA A (.slice ov l.length cv)) 38)).alloc (by first | exact Nat.le_refl _ | (simp;omega) | simp) (.cells #[.int .i64 r,.int .i64 c] 52)).alloc (by first | exact Nat.le_refl _ | (simp;omega) | simp) (.cells #[.int .i64 0,.int .i64 0,.int .i64 0,.int .i64 0,.int .i64 0,.int .i64 0,.int .i64 0,.int .i64 0,.slice none 0 0] 38))
 have HR:=y31h (hR.later BE.out (Nat.le_refl _))
 clear hR hl1 hl2
 generalize (zah (zal ⟨A,l⟩ id r c)).l=res at *
 have g1:decide (r < 1)=true:=decide_eq_true h
 go_enter Tryz.func207,Tryz.ntmps207
 have LA:=fun dd os o=>O2.out.has.regrown dd os o
 have LB:=fun dd os o=>O1.out.has.regrown dd os o
 have z1:=O1.out.lt
 have z2:=O2.out.lt
 go_wp2_with fail
 refine wp_region_quiet_below (by kernel_rfl) (by kernel_rfl) ?_
 repeat (first | go_big_quiet_step (fail) | quiet_step (fail))
 refine wpQuiet_nil ?_
 intro w7 hw'
 have hb7:=zag hw'
 clear hw' LA LB z1 z2
 have P1:=y31h (O1.out.later hb7)
 have P2:=y31h (O2.out.later hb7)
 have P3:=y31h (O3.out.later hb7)
 have BE7:=y31h (BE.out.trans (hb7.mono BE.out.size))
 have HR7:=y31h (HR.out.later hb7 (Nat.le_refl _))
 clear O1 O2 O3 BE HR hb7
 have CIW:=CI w7 HR7.out
 have l1:=P1.out.cell
 have z1:=P1.out.lt
 have l2:=P2.out.cell
 have z2:=P2.out.lt
 go_wp2_with (go_at_call 64;refine CIW.out.mono ?_;rintro e w8 ⟨v8,rfl,hfr8,hb8⟩;obtain ⟨o8,c8,rfl⟩:=hfr8.fr.val;clear l1 z1 l2 z2;have O38:=y31h (P3.out.later hb8);have BE8:=y31h (BE7.out.trans (hb8.mono BE7.out.size));have l3:=O38.out.cell;have f3:=O38.out.free;have z3:=O38.out.lt;have z38:=y31h (P3.out.lt);have HFF:=y31h hfr8;clear hb8 hfr8;generalize res.length=n8 at *)
 clear l3 f3 z3
 have key:=And.intro (zcg O38.out (.int .i64 (A 0)) (.int .i64 (A 1)) (.int .i64 (A 2)) (.int .i64 (A 3)) (.int .i64 (A 4)) (.int .i64 (A 5)) (.int .i64 (A 6)) (.int .i64 (A 7)) (.slice o8 n8 c8)) (And.intro (zbp (b:=w.heap.size + 1 + 1) BE8.out (by omega) (.int .i64 (A 0)) (.int .i64 (A 1)) (.int .i64 (A 2)) (.int .i64 (A 3)) (.int .i64 (A 4)) (.int .i64 (A 5)) (.int .i64 (A 6)) (.int .i64 (A 7)) (.slice o8 n8 c8)) (HFF.out.set9 z38.out (.int .i64 (A 0)) (.int .i64 (A 1)) (.int .i64 (A 2)) (.int .i64 (A 3)) (.int .i64 (A 4)) (.int .i64 (A 5)) (.int .i64 (A 6)) (.int .i64 (A 7)) (.slice o8 n8 c8)))
 have z37:=y31h (show w.heap.size≤_ from Nat.le_trans (by omega) (Nat.le_of_lt z38.out))
 clear O38 BE8 HFF z38
 unfold st9 st8 at key
 revert key
 generalize World.setCell (World.setCell (World.setCell (World.setCell (World.setCell (World.setCell (World.setCell (World.setCell (World.setCell _ _ _) _ _) _ _) _ _) _ _) _ _) _ _) _ _) _ _=WW
 rintro ⟨of,bf,ff⟩
 have lf:=of.cell
 refine bodyPost_ret (v:=knV A (.slice o8 n8 c8)) (by simp [results,Tryz.results207,go_sem,lf]) rfl ⟨_,rfl,ff.mono z37.out,bf⟩
theorem zty (A:Nat→Int) (l:List Fr) (id:ByteArray) (r c:Int) (h0:1≤r) (h:8 < r) (ov:Option Addr) (cv:Nat) (w:World) (hR:FrW w l (.slice ov l.length cv)) (hid:id.size≤maxLen) (hl1:(zaf (zal ⟨A,l⟩ id r c).l).length≤10000) (hl2:l.length≤10000) :
   Calls Tryz.prog 207 #[knV A (.slice ov l.length cv),.string id,.agg #[.int .i64 r,.int .i64 c]] w fun e w'=>∃ v',e=.returned (knV A v')∧FrFresh w' w.heap.size (zah (zal ⟨A,l⟩ id r c)).l v'∧Below w.heap.size w w':=by
 have CI:=fun w' h=>y31h (zcp ⟨A,l⟩ id r c (.slice ov l.length cv) w' h hid hl1 hl2)
 have O1:=y31h (((Own.newAt w (knA A (.slice ov l.length cv)) 38 (b:=w.heap.size) (by first | rfl | simp)).alloc (.cells #[.int .i64 r,.int .i64 c] 52)).alloc (.cells #[.int .i64 0,.int .i64 0,.int .i64 0,.int .i64 0,.int .i64 0,.int .i64 0,.int .i64 0,.int .i64 0,.slice none 0 0] 38))
 have O2:=y31h ((Own.newAt (w.alloc (.cells (knA A (.slice ov l.length cv)) 38)) #[.int .i64 r,.int .i64 c] 52 (b:=w.heap.size + 1) (by first | rfl | simp)).alloc (.cells #[.int .i64 0,.int .i64 0,.int .i64 0,.int .i64 0,.int .i64 0,.int .i64 0,.int .i64 0,.int .i64 0,.slice none 0 0] 38))
 have O3:=y31h (Own.newAt ((w.alloc (.cells (knA A (.slice ov l.length cv)) 38)).alloc (.cells #[.int .i64 r,.int .i64 c] 52)) #[.int .i64 0,.int .i64 0,.int .i64 0,.int .i64 0,.int .i64 0,.int .i64 0,.int .i64 0,.int .i64 0,.slice none 0 0] 38 (b:=w.heap.size + 1 + 1) (by first | rfl | simp))
 have BE:=y31h ((((Below.refl w.heap.size w).alloc (by first | exact Nat.le_refl _ | (simp;omega) | simp) (.cells (knA A (.slice ov l.length cv)) 38)).alloc (by first | exact Nat.le_refl _ | (simp;omega) | simp) (.cells #[.int .i64 r,.int .i64 c] 52)).alloc (by first | exact Nat.le_refl _ | (simp;omega) | simp) (.cells #[.int .i64 0,.int .i64 0,.int .i64 0,.int .i64 0,.int .i64 0,.int .i64 0,.int .i64 0,.int .i64 0,.slice none 0 0] 38))
 have HR:=y31h (hR.later BE.out (Nat.le_refl _))
 clear hR hl1 hl2
 generalize (zah (zal ⟨A,l⟩ id r c)).l=res at *
 have g1:decide (r < 1)=false:=decide_eq_false (by omega)
 have g2:decide (8 < r)=true:=decide_eq_true h
 go_enter Tryz.func207,Tryz.ntmps207
 have LA:=fun dd os o=>O2.out.has.regrown dd os o
 have LB:=fun dd os o=>O1.out.has.regrown dd os o
 have z1:=O1.out.lt
 have z2:=O2.out.lt
 go_wp2_with fail
 refine wp_region_quiet_below (by kernel_rfl) (by kernel_rfl) ?_
 repeat (first | go_big_quiet_step (fail) | quiet_step (fail))
 refine wpQuiet_nil ?_
 intro w7 hw'
 have hb7:=zag hw'
 clear hw' LA LB z1 z2
 have P1:=y31h (O1.out.later hb7)
 have P2:=y31h (O2.out.later hb7)
 have P3:=y31h (O3.out.later hb7)
 have BE7:=y31h (BE.out.trans (hb7.mono BE.out.size))
 have HR7:=y31h (HR.out.later hb7 (Nat.le_refl _))
 clear O1 O2 O3 BE HR hb7
 have CIW:=CI w7 HR7.out
 have l1:=P1.out.cell
 have z1:=P1.out.lt
 have l2:=P2.out.cell
 have z2:=P2.out.lt
 go_wp2_with (go_at_call 64;refine CIW.out.mono ?_;rintro e w8 ⟨v8,rfl,hfr8,hb8⟩;obtain ⟨o8,c8,rfl⟩:=hfr8.fr.val;clear l1 z1 l2 z2;have O38:=y31h (P3.out.later hb8);have BE8:=y31h (BE7.out.trans (hb8.mono BE7.out.size));have l3:=O38.out.cell;have f3:=O38.out.free;have z3:=O38.out.lt;have z38:=y31h (P3.out.lt);have HFF:=y31h hfr8;clear hb8 hfr8;generalize res.length=n8 at *)
 clear l3 f3 z3
 have key:=And.intro (zcg O38.out (.int .i64 (A 0)) (.int .i64 (A 1)) (.int .i64 (A 2)) (.int .i64 (A 3)) (.int .i64 (A 4)) (.int .i64 (A 5)) (.int .i64 (A 6)) (.int .i64 (A 7)) (.slice o8 n8 c8)) (And.intro (zbp (b:=w.heap.size + 1 + 1) BE8.out (by omega) (.int .i64 (A 0)) (.int .i64 (A 1)) (.int .i64 (A 2)) (.int .i64 (A 3)) (.int .i64 (A 4)) (.int .i64 (A 5)) (.int .i64 (A 6)) (.int .i64 (A 7)) (.slice o8 n8 c8)) (HFF.out.set9 z38.out (.int .i64 (A 0)) (.int .i64 (A 1)) (.int .i64 (A 2)) (.int .i64 (A 3)) (.int .i64 (A 4)) (.int .i64 (A 5)) (.int .i64 (A 6)) (.int .i64 (A 7)) (.slice o8 n8 c8)))
 have z37:=y31h (show w.heap.size≤_ from Nat.le_trans (by omega) (Nat.le_of_lt z38.out))
 clear O38 BE8 HFF z38
 unfold st9 st8 at key
 revert key
 generalize World.setCell (World.setCell (World.setCell (World.setCell (World.setCell (World.setCell (World.setCell (World.setCell (World.setCell _ _ _) _ _) _ _) _ _) _ _) _ _) _ _) _ _) _ _=WW
 rintro ⟨of,bf,ff⟩
 have lf:=of.cell
 refine bodyPost_ret (v:=knV A (.slice o8 n8 c8)) (by simp [results,Tryz.results207,go_sem,lf]) rfl ⟨_,rfl,ff.mono z37.out,bf⟩
theorem zt0 (A:Nat→Int) (l:List Fr) (id:ByteArray) (r c:Int) (h0:1≤r) (h1:r≤8) (h:c < 1) (ov:Option Addr) (cv:Nat) (w:World) (hR:FrW w l (.slice ov l.length cv)) (hid:id.size≤maxLen) (hl1:(zaf (zal ⟨A,l⟩ id r c).l).length≤10000) (hl2:l.length≤10000) :
   Calls Tryz.prog 207 #[knV A (.slice ov l.length cv),.string id,.agg #[.int .i64 r,.int .i64 c]] w fun e w'=>∃ v',e=.returned (knV A v')∧FrFresh w' w.heap.size (zah (zal ⟨A,l⟩ id r c)).l v'∧Below w.heap.size w w':=by
 have CI:=fun w' h=>y31h (zcp ⟨A,l⟩ id r c (.slice ov l.length cv) w' h hid hl1 hl2)
 have O1:=y31h (((Own.newAt w (knA A (.slice ov l.length cv)) 38 (b:=w.heap.size) (by first | rfl | simp)).alloc (.cells #[.int .i64 r,.int .i64 c] 52)).alloc (.cells #[.int .i64 0,.int .i64 0,.int .i64 0,.int .i64 0,.int .i64 0,.int .i64 0,.int .i64 0,.int .i64 0,.slice none 0 0] 38))
 have O2:=y31h ((Own.newAt (w.alloc (.cells (knA A (.slice ov l.length cv)) 38)) #[.int .i64 r,.int .i64 c] 52 (b:=w.heap.size + 1) (by first | rfl | simp)).alloc (.cells #[.int .i64 0,.int .i64 0,.int .i64 0,.int .i64 0,.int .i64 0,.int .i64 0,.int .i64 0,.int .i64 0,.slice none 0 0] 38))
 have O3:=y31h (Own.newAt ((w.alloc (.cells (knA A (.slice ov l.length cv)) 38)).alloc (.cells #[.int .i64 r,.int .i64 c] 52)) #[.int .i64 0,.int .i64 0,.int .i64 0,.int .i64 0,.int .i64 0,.int .i64 0,.int .i64 0,.int .i64 0,.slice none 0 0] 38 (b:=w.heap.size + 1 + 1) (by first | rfl | simp))
 have BE:=y31h ((((Below.refl w.heap.size w).alloc (by first | exact Nat.le_refl _ | (simp;omega) | simp) (.cells (knA A (.slice ov l.length cv)) 38)).alloc (by first | exact Nat.le_refl _ | (simp;omega) | simp) (.cells #[.int .i64 r,.int .i64 c] 52)).alloc (by first | exact Nat.le_refl _ | (simp;omega) | simp) (.cells #[.int .i64 0,.int .i64 0,.int .i64 0,.int .i64 0,.int .i64 0,.int .i64 0,.int .i64 0,.int .i64 0,.slice none 0 0] 38))
 have HR:=y31h (hR.later BE.out (Nat.le_refl _))
 clear hR hl1 hl2
 generalize (zah (zal ⟨A,l⟩ id r c)).l=res at *
 have g1:decide (r < 1)=false:=decide_eq_false (by omega)
 have g2:decide (8 < r)=false:=decide_eq_false (by omega)
 have g3:decide (c < 1)=true:=decide_eq_true h
 go_enter Tryz.func207,Tryz.ntmps207
 have LA:=fun dd os o=>O2.out.has.regrown dd os o
 have LB:=fun dd os o=>O1.out.has.regrown dd os o
 have z1:=O1.out.lt
 have z2:=O2.out.lt
 go_wp2_with fail
 refine wp_region_quiet_below (by kernel_rfl) (by kernel_rfl) ?_
 repeat (first | go_big_quiet_step (fail) | quiet_step (fail))
 refine wpQuiet_nil ?_
 intro w7 hw'
 have hb7:=zag hw'
 clear hw' LA LB z1 z2
 have P1:=y31h (O1.out.later hb7)
 have P2:=y31h (O2.out.later hb7)
 have P3:=y31h (O3.out.later hb7)
 have BE7:=y31h (BE.out.trans (hb7.mono BE.out.size))
 have HR7:=y31h (HR.out.later hb7 (Nat.le_refl _))
 clear O1 O2 O3 BE HR hb7
 have CIW:=CI w7 HR7.out
 have l1:=P1.out.cell
 have z1:=P1.out.lt
 have l2:=P2.out.cell
 have z2:=P2.out.lt
 go_wp2_with (go_at_call 64;refine CIW.out.mono ?_;rintro e w8 ⟨v8,rfl,hfr8,hb8⟩;obtain ⟨o8,c8,rfl⟩:=hfr8.fr.val;clear l1 z1 l2 z2;have O38:=y31h (P3.out.later hb8);have BE8:=y31h (BE7.out.trans (hb8.mono BE7.out.size));have l3:=O38.out.cell;have f3:=O38.out.free;have z3:=O38.out.lt;have z38:=y31h (P3.out.lt);have HFF:=y31h hfr8;clear hb8 hfr8;generalize res.length=n8 at *)
 clear l3 f3 z3
 have key:=And.intro (zcg O38.out (.int .i64 (A 0)) (.int .i64 (A 1)) (.int .i64 (A 2)) (.int .i64 (A 3)) (.int .i64 (A 4)) (.int .i64 (A 5)) (.int .i64 (A 6)) (.int .i64 (A 7)) (.slice o8 n8 c8)) (And.intro (zbp (b:=w.heap.size + 1 + 1) BE8.out (by omega) (.int .i64 (A 0)) (.int .i64 (A 1)) (.int .i64 (A 2)) (.int .i64 (A 3)) (.int .i64 (A 4)) (.int .i64 (A 5)) (.int .i64 (A 6)) (.int .i64 (A 7)) (.slice o8 n8 c8)) (HFF.out.set9 z38.out (.int .i64 (A 0)) (.int .i64 (A 1)) (.int .i64 (A 2)) (.int .i64 (A 3)) (.int .i64 (A 4)) (.int .i64 (A 5)) (.int .i64 (A 6)) (.int .i64 (A 7)) (.slice o8 n8 c8)))
 have z37:=y31h (show w.heap.size≤_ from Nat.le_trans (by omega) (Nat.le_of_lt z38.out))
 clear O38 BE8 HFF z38
 unfold st9 st8 at key
 revert key
 generalize World.setCell (World.setCell (World.setCell (World.setCell (World.setCell (World.setCell (World.setCell (World.setCell (World.setCell _ _ _) _ _) _ _) _ _) _ _) _ _) _ _) _ _) _ _=WW
 rintro ⟨of,bf,ff⟩
 have lf:=of.cell
 refine bodyPost_ret (v:=knV A (.slice o8 n8 c8)) (by simp [results,Tryz.results207,go_sem,lf]) rfl ⟨_,rfl,ff.mono z37.out,bf⟩
theorem zrz (A:Nat→Int) (l:List Fr) (id:ByteArray) (k:Nat) (c:Int) (hk:k < 8) (h0:1≤c) (hcw:c≤9223372036854775807) (h:A k ≠ c - 1) (ov:Option Addr) (cv:Nat) (w:World) (hR:FrW w l (.slice ov l.length cv)) (hid:id.size≤maxLen) (hl1:(zaf (zal ⟨A,l⟩ id ((k:Int) + 1) c).l).length≤10000) (hl2:l.length≤10000) :
   Calls Tryz.prog 207 #[knV A (.slice ov l.length cv),.string id,.agg #[.int .i64 ((k:Int) + 1),.int .i64 c]] w fun e w'=>∃ v',e=.returned (knV A v')∧FrFresh w' w.heap.size (zah (zal ⟨A,l⟩ id ((k:Int) + 1) c)).l v'∧Below w.heap.size w w':=by
 have CI:=fun w' h=>y31h (zcp ⟨A,l⟩ id ((k:Int) + 1) c (.slice ov l.length cv) w' h hid hl1 hl2)
 have O1:=y31h (((Own.newAt w (knA A (.slice ov l.length cv)) 38 (b:=w.heap.size) (by first | rfl | simp)).alloc (.cells #[.int .i64 ((k:Int) + 1),.int .i64 c] 52)).alloc (.cells #[.int .i64 0,.int .i64 0,.int .i64 0,.int .i64 0,.int .i64 0,.int .i64 0,.int .i64 0,.int .i64 0,.slice none 0 0] 38))
 have O2:=y31h ((Own.newAt (w.alloc (.cells (knA A (.slice ov l.length cv)) 38)) #[.int .i64 ((k:Int) + 1),.int .i64 c] 52 (b:=w.heap.size + 1) (by first | rfl | simp)).alloc (.cells #[.int .i64 0,.int .i64 0,.int .i64 0,.int .i64 0,.int .i64 0,.int .i64 0,.int .i64 0,.int .i64 0,.slice none 0 0] 38))
 have O3:=y31h (Own.newAt ((w.alloc (.cells (knA A (.slice ov l.length cv)) 38)).alloc (.cells #[.int .i64 ((k:Int) + 1),.int .i64 c] 52)) #[.int .i64 0,.int .i64 0,.int .i64 0,.int .i64 0,.int .i64 0,.int .i64 0,.int .i64 0,.int .i64 0,.slice none 0 0] 38 (b:=w.heap.size + 1 + 1) (by first | rfl | simp))
 have BE:=y31h ((((Below.refl w.heap.size w).alloc (by first | exact Nat.le_refl _ | (simp;omega) | simp) (.cells (knA A (.slice ov l.length cv)) 38)).alloc (by first | exact Nat.le_refl _ | (simp;omega) | simp) (.cells #[.int .i64 ((k:Int) + 1),.int .i64 c] 52)).alloc (by first | exact Nat.le_refl _ | (simp;omega) | simp) (.cells #[.int .i64 0,.int .i64 0,.int .i64 0,.int .i64 0,.int .i64 0,.int .i64 0,.int .i64 0,.int .i64 0,.slice none 0 0] 38))
 have HR:=y31h (hR.later BE.out (Nat.le_refl _))
 clear hR hl1 hl2
 generalize (zah (zal ⟨A,l⟩ id ((k:Int) + 1) c)).l=res at *
 have g1:decide ((k:Int) + 1 < 1)=false:=decide_eq_false (by omega)
 have g2:decide (8 < (k:Int) + 1)=false:=decide_eq_false (by omega)
 have g3:decide (c < 1)=false:=decide_eq_false (by omega)
 have gk:(k:Int) + 1 - 1=(k:Int):=by omega
 have k0:(0:Int)≤(k:Int):=by omega
 have k1:(k:Int) < 8:=by omega
 have g4:(A k == c - 1)=false:=by rw [beq_eq_false_iff_ne];exact h
 go_enter Tryz.func207,Tryz.ntmps207
 have LA:=fun dd os o=>O2.out.has.regrown dd os o
 have LB:=fun dd os o=>O1.out.has.regrown dd os o
 have z1:=O1.out.lt
 have z2:=O2.out.lt
 have LC:=fun dd os=>(LB dd os k).trans (zj1 A (.slice ov l.length cv) hk)
 clear LB
 go_wp2_with fail
 refine wp_region_quiet_below (by kernel_rfl) (by kernel_rfl) ?_
 repeat (first | go_big_quiet_step (fail) | quiet_step (fail))
 refine wpQuiet_nil ?_
 intro w7 hw'
 have hb7:=zag hw'
 clear hw' LA LC z1 z2
 have P1:=y31h (O1.out.later hb7)
 have P2:=y31h (O2.out.later hb7)
 have P3:=y31h (O3.out.later hb7)
 have BE7:=y31h (BE.out.trans (hb7.mono BE.out.size))
 have HR7:=y31h (HR.out.later hb7 (Nat.le_refl _))
 clear O1 O2 O3 BE HR hb7
 have CIW:=CI w7 HR7.out
 have l1:=P1.out.cell
 have z1:=P1.out.lt
 have l2:=P2.out.cell
 have z2:=P2.out.lt
 go_wp2_with (go_at_call 64;refine CIW.out.mono ?_;rintro e w8 ⟨v8,rfl,hfr8,hb8⟩;obtain ⟨o8,c8,rfl⟩:=hfr8.fr.val;clear l1 z1 l2 z2;have O38:=y31h (P3.out.later hb8);have BE8:=y31h (BE7.out.trans (hb8.mono BE7.out.size));have l3:=O38.out.cell;have f3:=O38.out.free;have z3:=O38.out.lt;have z38:=y31h (P3.out.lt);have HFF:=y31h hfr8;clear hb8 hfr8;generalize res.length=n8 at *)
 clear l3 f3 z3
 have key:=And.intro (zcg O38.out (.int .i64 (A 0)) (.int .i64 (A 1)) (.int .i64 (A 2)) (.int .i64 (A 3)) (.int .i64 (A 4)) (.int .i64 (A 5)) (.int .i64 (A 6)) (.int .i64 (A 7)) (.slice o8 n8 c8)) (And.intro (zbp (b:=w.heap.size + 1 + 1) BE8.out (by omega) (.int .i64 (A 0)) (.int .i64 (A 1)) (.int .i64 (A 2)) (.int .i64 (A 3)) (.int .i64 (A 4)) (.int .i64 (A 5)) (.int .i64 (A 6)) (.int .i64 (A 7)) (.slice o8 n8 c8)) (HFF.out.set9 z38.out (.int .i64 (A 0)) (.int .i64 (A 1)) (.int .i64 (A 2)) (.int .i64 (A 3)) (.int .i64 (A 4)) (.int .i64 (A 5)) (.int .i64 (A 6)) (.int .i64 (A 7)) (.slice o8 n8 c8)))
 have z37:=y31h (show w.heap.size≤_ from Nat.le_trans (by omega) (Nat.le_of_lt z38.out))
 clear O38 BE8 HFF z38
 unfold st9 st8 at key
 revert key
 generalize World.setCell (World.setCell (World.setCell (World.setCell (World.setCell (World.setCell (World.setCell (World.setCell (World.setCell _ _ _) _ _) _ _) _ _) _ _) _ _) _ _) _ _) _ _=WW
 rintro ⟨of,bf,ff⟩
 have lf:=of.cell
 refine bodyPost_ret (v:=knV A (.slice o8 n8 c8)) (by simp [results,Tryz.results207,go_sem,lf]) rfl ⟨_,rfl,ff.mono z37.out,bf⟩
theorem ztz (A:Nat→Int) (l:List Fr) (id:ByteArray) (k:Nat) (c:Int) (hk:k < 8) (h0:1≤c) (hcw:c≤9223372036854775807) (h:A k=c - 1) (ov:Option Addr) (cv:Nat) (w:World) (hR:FrW w l (.slice ov l.length cv)) (hl3:(zaf l).length≤10000) :
   Calls Tryz.prog 207 #[knV A (.slice ov l.length cv),.string id,.agg #[.int .i64 ((k:Int) + 1),.int .i64 c]] w fun e w'=>∃ v',e=.returned (knV (zav A ((k:Int) + 1) c) v')∧FrFresh w' w.heap.size (zah ⟨zav A ((k:Int) + 1) c,l⟩).l v'∧Below w.heap.size w w':=by
 have CP:=fun w' h=>y31h (zft ⟨zav A ((k:Int) + 1) c,l⟩ (.slice ov l.length cv) w' h hl3)
 have O1:=y31h (((Own.newAt w (knA A (.slice ov l.length cv)) 38 (b:=w.heap.size) (by first | rfl | simp)).alloc (.cells #[.int .i64 ((k:Int) + 1),.int .i64 c] 52)).alloc (.cells #[.int .i64 0,.int .i64 0,.int .i64 0,.int .i64 0,.int .i64 0,.int .i64 0,.int .i64 0,.int .i64 0,.slice none 0 0] 38))
 have O2:=y31h ((Own.newAt (w.alloc (.cells (knA A (.slice ov l.length cv)) 38)) #[.int .i64 ((k:Int) + 1),.int .i64 c] 52 (b:=w.heap.size + 1) (by first | rfl | simp)).alloc (.cells #[.int .i64 0,.int .i64 0,.int .i64 0,.int .i64 0,.int .i64 0,.int .i64 0,.int .i64 0,.int .i64 0,.slice none 0 0] 38))
 have O3:=y31h (Own.newAt ((w.alloc (.cells (knA A (.slice ov l.length cv)) 38)).alloc (.cells #[.int .i64 ((k:Int) + 1),.int .i64 c] 52)) #[.int .i64 0,.int .i64 0,.int .i64 0,.int .i64 0,.int .i64 0,.int .i64 0,.int .i64 0,.int .i64 0,.slice none 0 0] 38 (b:=w.heap.size + 1 + 1) (by first | rfl | simp))
 have BE:=y31h ((((Below.refl w.heap.size w).alloc (by first | exact Nat.le_refl _ | (simp;omega) | simp) (.cells (knA A (.slice ov l.length cv)) 38)).alloc (by first | exact Nat.le_refl _ | (simp;omega) | simp) (.cells #[.int .i64 ((k:Int) + 1),.int .i64 c] 52)).alloc (by first | exact Nat.le_refl _ | (simp;omega) | simp) (.cells #[.int .i64 0,.int .i64 0,.int .i64 0,.int .i64 0,.int .i64 0,.int .i64 0,.int .i64 0,.int .i64 0,.slice none 0 0] 38))
 have HRW:=y31h hR
 have HB:=y31h (zp2 hk h)
 clear hR
 have HSET:=y31h (fun B (hB:B=zav A ((k:Int) + 1) c)=>(show (knA A (.slice ov l.length cv)).setIfInBounds k (.int .i64 c)=knA B (.slice ov l.length cv) by subst hB;exact (zv6 A (.slice ov l.length cv) hk c).trans (zrx (.slice ov l.length cv) HB.out)))
 generalize hBB:zav A ((k:Int) + 1) c=B at *
 have HBB:=y31h hBB
 clear hBB
 generalize (zah ⟨B,l⟩).l=res at *
 have g1:decide ((k:Int) + 1 < 1)=false:=decide_eq_false (by omega)
 have g2:decide (8 < (k:Int) + 1)=false:=decide_eq_false (by omega)
 have g3:decide (c < 1)=false:=decide_eq_false (by omega)
 have gk:(k:Int) + 1 - 1=(k:Int):=by omega
 have k0:(0:Int)≤(k:Int):=by omega
 have k1:(k:Int) < 8:=by omega
 have g4:(A k == c - 1)=true:=by rw [beq_iff_eq];exact h
 go_enter Tryz.func207,Tryz.ntmps207
 have LA:=fun dd os o=>O2.out.has.regrown dd os o
 have LC:=fun dd os=>(O1.out.has.regrown dd os k).trans (zj1 A (.slice ov l.length cv) hk)
 have z1:=O1.out.lt
 have z2:=O2.out.lt
 go_wp2_with fail
 refine wp_region_quiet_below (by kernel_rfl) (by kernel_rfl) ?_
 repeat (first | go_big_quiet_step (fail) | quiet_step (fail))
 refine wpQuiet_nil ?_
 intro w7 hw'
 have hb7:=zag hw'
 clear hw' LA LC z1 z2
 have P1:=y31h (O1.out.later hb7)
 have P2:=y31h (O2.out.later hb7)
 have P3:=y31h (O3.out.later hb7)
 have BE7:=y31h (BE.out.trans (hb7.mono BE.out.size))
 clear O1 O2 O3 BE hb7
 have ck:=(P1.out.cell k).trans (zj1 A (.slice ov l.length cv) hk)
 have fk:=P1.out.free k
 have z1:=P1.out.lt
 have l2:=P2.out.cell
 have z2:=P2.out.lt
 go_upto_region 4 with fail
 have Q1:=y31h (show Own (w7.setCell ⟨w.heap.size,k,none⟩ (.int .i64 c)) w.heap.size (knA B (.slice ov l.length cv)) 38 by rw [← HSET.out B rfl];exact P1.out.set k _)
 have Q3:=y31h (P3.out.setFar ⟨w.heap.size,k,none⟩ (.int .i64 c) (by show w.heap.size + 1 + 1 ≠ w.heap.size;omega))
 have BQ:=y31h (BE7.out.setCell (p:=⟨w.heap.size,k,none⟩) (Nat.le_refl _) (.int .i64 c))
 clear P1 P2 P3 BE7 ck fk z1 l2 z2 HSET HB
 generalize w7.setCell ⟨w.heap.size,k,none⟩ (.int .i64 c)=W7 at *
 have CPW:=CP W7 (HRW.out.later BQ.out (Nat.le_refl _))
 have l1:=Q1.out.cell
 have z1:=Q1.out.lt
 go_wp2_with (go_at_call 142;refine CPW.out.mono ?_;rintro e w8 ⟨v8,rfl,hfr8,hb8⟩;obtain ⟨o8,c8,rfl⟩:=hfr8.fr.val;clear l1 z1;have O38:=y31h (Q3.out.later hb8);have BE8:=y31h (BQ.out.trans (hb8.mono BQ.out.size));have l3:=O38.out.cell;have f3:=O38.out.free;have z3:=O38.out.lt;have z38:=y31h (Q3.out.lt);have HFF:=y31h hfr8;clear hb8 hfr8;generalize res.length=n8 at *)
 clear l3 f3 z3
 have key:=And.intro (zcg O38.out (.int .i64 (B 0)) (.int .i64 (B 1)) (.int .i64 (B 2)) (.int .i64 (B 3)) (.int .i64 (B 4)) (.int .i64 (B 5)) (.int .i64 (B 6)) (.int .i64 (B 7)) (.slice o8 n8 c8)) (And.intro (zbp (b:=w.heap.size + 1 + 1) BE8.out (by omega) (.int .i64 (B 0)) (.int .i64 (B 1)) (.int .i64 (B 2)) (.int .i64 (B 3)) (.int .i64 (B 4)) (.int .i64 (B 5)) (.int .i64 (B 6)) (.int .i64 (B 7)) (.slice o8 n8 c8)) (HFF.out.set9 z38.out (.int .i64 (B 0)) (.int .i64 (B 1)) (.int .i64 (B 2)) (.int .i64 (B 3)) (.int .i64 (B 4)) (.int .i64 (B 5)) (.int .i64 (B 6)) (.int .i64 (B 7)) (.slice o8 n8 c8)))
 have z37:=y31h (show w.heap.size≤_ from Nat.le_trans (by omega) (Nat.le_of_lt z38.out))
 clear O38 BE8 HFF z38
 unfold st9 st8 at key
 revert key
 generalize World.setCell (World.setCell (World.setCell (World.setCell (World.setCell (World.setCell (World.setCell (World.setCell (World.setCell _ _ _) _ _) _ _) _ _) _ _) _ _) _ _) _ _) _ _=WW
 rintro ⟨of,bf,ff⟩
 have lf:=of.cell
 refine bodyPost_ret (v:=knV B (.slice o8 n8 c8)) (by simp [results,Tryz.results207,go_sem,lf]) rfl ⟨_,rfl,ff.mono z37.out,bf⟩
theorem zm4 (K:Kn) (id:ByteArray) (r c:Int) (v:Value) (w:World) (hR:FrW w K.l v) (hid:id.size≤maxLen) (hl1:(zaf (zal K id r c).l).length≤10000) (hl2:K.l.length≤10000) (hl3:(zaf K.l).length≤10000) (hcw:c≤9223372036854775807) :
   Calls Tryz.prog 207 #[knV K.star v,.string id,.agg #[.int .i64 r,.int .i64 c]] w fun e w'=>∃ v',e=.returned (knV (ownK K id r c).star v')∧FrFresh w' w.heap.size (zah (ownK K id r c)).l v'∧Below w.heap.size w w':=by
 obtain ⟨ov,cv,rfl⟩:=hR.val
 obtain ⟨A,l⟩:=K
 simp only at *
 by_cases h1:r < 1
 · rw [zfc (.inl (.inl h1))]
   exact zv7 A l id r c h1 ov cv w hR hid hl1 hl2
 by_cases h2:8 < r
 · rw [zfc (.inl (.inr (.inl h2)))]
   exact zty A l id r c (by omega) h2 ov cv w hR hid hl1 hl2
 by_cases h3:c < 1
 · rw [zfc (.inl (.inr (.inr h3)))]
   exact zt0 A l id r c (by omega) (by omega) h3 ov cv w hR hid hl1 hl2
 obtain ⟨k,rfl⟩:∃ k:Nat,r=(k:Int) + 1:=⟨(r - 1).toNat,by omega⟩
 by_cases h4:A k=c - 1
 · rw [zry (K:=⟨A,l⟩) (by omega) (by omega) h4]
   exact ztz A l id k c (by omega) (by omega) hcw h4 ov cv w hR hl3
 · rw [zfc (K:=⟨A,l⟩) (.inr (by rw [show ((k:Int) + 1 - 1).toNat=k by omega];exact h4))]
   exact zrz A l id k c (by omega) (by omega) hcw h4 ov cv w hR hid hl1 hl2
theorem zdq (a b:St) (af asv ao ak bf bs bo bk:Value) (w:World) (hA:StW w a af asv ao ak) (hB:StW w b bf bs bo bk) :
   Calls Tryz.prog 24 #[stV a af asv ao ak,stV b bf bs bo bk] w fun e w'=>e=.returned (.bool (zlf a b))∧Below w.heap.size w w':=by
 have OA:=y31h ((Has.new w (stA a af asv ao ak) 40).alloc (.cells (stA b bf bs bo bk) 40))
 have OB:=y31h ((Own.newAt (w.alloc (.cells (stA a af asv ao ak) 40)) (stA b bf bs bo bk) 40 (b:=w.heap.size + 1) (by simp)).has)
 have BEL:=y31h (((Below.refl w.heap.size w).alloc (Nat.le_refl _) (.cells (stA a af asv ao ak) 40)).alloc (by simp) (.cells (stA b bf bs bo bk) 40))
 have LA:=y31h ((hA.alloc (.cells (stA a af asv ao ak) 40)).alloc (.cells (stA b bf bs bo bk) 40))
 have LB:=y31h ((hB.alloc (.cells (stA a af asv ao ak) 40)).alloc (.cells (stA b bf bs bo bk) 40))
 clear hA hB
 obtain ⟨r,f,l,o,k,count,clock,epoch⟩:=a
 obtain ⟨r',f',l',o',k',count',clock',epoch'⟩:=b
 have SF:=fun w' h h'=>y31h (zp7 f f' af bf w' h h')
 have SS:=fun w' h h'=>y31h (zgm zds zjh l l' asv bs w' h h')
 have SO:=fun w' h h'=>y31h (zgm zds zjh o o' ao bo w' h h')
 have SK:=fun w' h h'=>y31h (zpn k k' ak bk w' h h')
 have HE:=y31h (show zlf ⟨r,f,l,o,k,count,clock,epoch⟩ ⟨r',f',l',o',k',count',clock',epoch'⟩=((decide (r=r') && (decide (count=count') && (decide (clock=clock') && decide (epoch=epoch')))) && (Pr.same f f' && (zcl zds l l' && (zcl zds o o' && zc8 k k')))) from rfl)
 generalize zlf ⟨r,f,l,o,k,count,clock,epoch⟩ ⟨r',f',l',o',k',count',clock',epoch'⟩=res at *
 try simp only at OA OB LA LB BEL
 have lOA:=OA.out.cell
 have zOA:=OA.out.lt
 have lOB:=OB.out.cell
 have zOB:=OB.out.lt
 by_cases h1:r=r'
 case neg =>
   have E:=y31h (show res=false by rw [HE.out];simp [h1])
   have e1:(r == r')=false:=by simpa using h1
   have e2:(r != r')=true:=by simpa using h1
   clear HE h1
   go_enter Tryz.func24,Tryz.ntmps24
   go_wp2_with fail
   go_ret
   exact ⟨zac E.out.symm,BEL.out⟩
 subst h1
 by_cases h2:count=count'
 case neg =>
   have E:=y31h (show res=false by rw [HE.out];simp [h2])
   have e1:(count == count')=false:=by simpa using h2
   have e2:(count != count')=true:=by simpa using h2
   clear HE h2
   go_enter Tryz.func24,Tryz.ntmps24
   go_wp2_with fail
   go_ret
   exact ⟨zac E.out.symm,BEL.out⟩
 subst h2
 by_cases h3:clock=clock'
 case neg =>
   have E:=y31h (show res=false by rw [HE.out];simp [h3])
   have e1:(clock == clock')=false:=by simpa using h3
   have e2:(clock != clock')=true:=by simpa using h3
   clear HE h3
   go_enter Tryz.func24,Tryz.ntmps24
   go_wp2_with fail
   go_ret
   exact ⟨zac E.out.symm,BEL.out⟩
 subst h3
 by_cases h4:epoch=epoch'
 case neg =>
   have E:=y31h (show res=false by rw [HE.out];simp [h4])
   have e1:(epoch == epoch')=false:=by simpa using h4
   have e2:(epoch != epoch')=true:=by simpa using h4
   clear HE h4
   go_enter Tryz.func24,Tryz.ntmps24
   go_wp2_with fail
   go_ret
   exact ⟨zac E.out.symm,BEL.out⟩
 subst h4
 have E:=y31h (show res=(Pr.same f f' && (zcl zds l l' && (zcl zds o o' && zc8 k k'))) by rw [HE.out];simp)
 clear HE
 generalize Pr.same f f'=x1 at *
 generalize zcl zds l l'=x2 at *
 generalize zcl zds o o'=x3 at *
 generalize zc8 k k'=x4 at *
 go_enter Tryz.func24,Tryz.ntmps24
 go_upto_region 4 with (first | (go_at_call 82;with_reducible refine (SF _ LA.out.lf LB.out.lf).out.mono ?_;rintro e w1 ⟨rfl,hb⟩;replace OA:=y31h (OA.out.below hb OA.out.lt);replace OB:=y31h (OB.out.below hb OB.out.lt);replace LA:=y31h (LA.out.later hb);replace LB:=y31h (LB.out.later hb);replace BEL:=y31h (BEL.out.trans (hb.mono BEL.out.size));clear hb;replace lOA:=OA.out.cell;replace zOA:=OA.out.lt;replace lOB:=OB.out.cell;replace zOB:=OB.out.lt) | fail)
 clear SF
 go_upto_region 5 with (first | (go_at_call 83;with_reducible refine (SS _ LA.out.ls LB.out.ls).out.mono ?_;rintro e w2 ⟨rfl,hb⟩;replace OA:=y31h (OA.out.below hb OA.out.lt);replace OB:=y31h (OB.out.below hb OB.out.lt);replace LA:=y31h (LA.out.later hb);replace LB:=y31h (LB.out.later hb);replace BEL:=y31h (BEL.out.trans (hb.mono BEL.out.size));clear hb;replace lOA:=OA.out.cell;replace zOA:=OA.out.lt;replace lOB:=OB.out.cell;replace zOB:=OB.out.lt) | fail)
 clear SS
 go_upto_region 6 with (first | (go_at_call 83;with_reducible refine (SO _ LA.out.lo LB.out.lo).out.mono ?_;rintro e w3 ⟨rfl,hb⟩;replace OA:=y31h (OA.out.below hb OA.out.lt);replace OB:=y31h (OB.out.below hb OB.out.lt);replace LA:=y31h (LA.out.later hb);replace LB:=y31h (LB.out.later hb);replace BEL:=y31h (BEL.out.trans (hb.mono BEL.out.size));clear hb;replace lOA:=OA.out.cell;replace zOA:=OA.out.lt;replace lOB:=OB.out.cell;replace zOB:=OB.out.lt) | fail)
 clear SO
 cases x1
 case false =>
   go_wp2_with (first | (go_at_call 84;with_reducible refine (SK _ LA.out.lk LB.out.lk).out.mono ?_;rintro e w4 ⟨rfl,hb⟩;replace OA:=y31h (OA.out.below hb OA.out.lt);replace OB:=y31h (OB.out.below hb OB.out.lt);replace LA:=y31h (LA.out.later hb);replace LB:=y31h (LB.out.later hb);replace BEL:=y31h (BEL.out.trans (hb.mono BEL.out.size));clear hb;replace lOA:=OA.out.cell;replace zOA:=OA.out.lt;replace lOB:=OB.out.cell;replace zOB:=OB.out.lt) | fail)
   go_ret
   exact ⟨zac (by rw [E.out];simp),BEL.out⟩
 cases x2
 case false =>
   go_wp2_with (first | (go_at_call 84;with_reducible refine (SK _ LA.out.lk LB.out.lk).out.mono ?_;rintro e w4 ⟨rfl,hb⟩;replace OA:=y31h (OA.out.below hb OA.out.lt);replace OB:=y31h (OB.out.below hb OB.out.lt);replace LA:=y31h (LA.out.later hb);replace LB:=y31h (LB.out.later hb);replace BEL:=y31h (BEL.out.trans (hb.mono BEL.out.size));clear hb;replace lOA:=OA.out.cell;replace zOA:=OA.out.lt;replace lOB:=OB.out.cell;replace zOB:=OB.out.lt) | fail)
   go_ret
   exact ⟨zac (by rw [E.out];simp),BEL.out⟩
 cases x3
 case false =>
   go_wp2_with (first | (go_at_call 84;with_reducible refine (SK _ LA.out.lk LB.out.lk).out.mono ?_;rintro e w4 ⟨rfl,hb⟩;replace OA:=y31h (OA.out.below hb OA.out.lt);replace OB:=y31h (OB.out.below hb OB.out.lt);replace LA:=y31h (LA.out.later hb);replace LB:=y31h (LB.out.later hb);replace BEL:=y31h (BEL.out.trans (hb.mono BEL.out.size));clear hb;replace lOA:=OA.out.cell;replace zOA:=OA.out.lt;replace lOB:=OB.out.cell;replace zOB:=OB.out.lt) | fail)
   go_ret
   exact ⟨zac (by rw [E.out];simp),BEL.out⟩
 go_wp2_with (first | (go_at_call 84;with_reducible refine (SK _ LA.out.lk LB.out.lk).out.mono ?_;rintro e w4 ⟨rfl,hb⟩;replace OA:=y31h (OA.out.below hb OA.out.lt);replace OB:=y31h (OB.out.below hb OB.out.lt);replace LA:=y31h (LA.out.later hb);replace LB:=y31h (LB.out.later hb);replace BEL:=y31h (BEL.out.trans (hb.mono BEL.out.size));clear hb;replace lOA:=OA.out.cell;replace zOA:=OA.out.lt;replace lOB:=OB.out.cell;replace zOB:=OB.out.lt) | fail)
 go_ret
 exact ⟨zac (by rw [E.out];simp),BEL.out⟩
end Go.Proofs.YtodfhabkdaiopaaGreat
namespace Go.Proofs.YtodfhabkdaiopaaGreat
set_option linter.unusedVariables false
set_option linter.unusedSimpArgs false
set_option maxRecDepth 100000
set_option maxHeartbeats 8000000
open Go.ChangeShapes Go.WideShapes Go.ChangeAt Go.RowKit Go.Deep
structure Rd where
 what:Int
 n:Int
 z:Itm
 r:Int
 c:Int
 r2:Int
 q2:Int
 d:De
 fv:Value
instance:Inhabited Rd:=⟨⟨0,0,Itm.zero,0,0,0,0,⟨0,⟨#[]⟩,⟨#[]⟩,0,0,0,.node 0 ⟨#[]⟩ 0 0 0 []⟩,.nilFunc⟩⟩
def rdC (x:Rd):List Value:=[.int .i64 x.what,.int .i64 x.n,.string x.z.id,.int .i64 x.z.r,.int .i64 x.z.c,.int .i64 x.z.st,.string x.z.kd,.int .i64 x.z.num,.float .f64 x.z.x,.float .f64 x.z.y,.bool x.z.d,.int .i64 x.r,.int .i64 x.c,.int .i64 x.r2,.int .i64 x.q2,.int .i64 x.d.what,.string x.d.id,.string x.d.kd,.int .i64 x.d.num,.float .f64 x.d.x,.float .f64 x.d.y,.int .i64 x.d.f.op,.string x.d.f.text,.int .i64 x.d.f.n,.float .f64 x.d.f.x,.float .f64 x.d.f.y,x.fv]
structure RdOk (w:World) (x:Rd):Prop where
 z:x.z.id.size≤maxLen∧x.z.kd.size≤maxLen
 d:DeW w x.d x.fv
 what:-9223372036854775808≤x.what∧x.what≤9223372036854775807
 n:-9223372036854775808≤x.n∧x.n≤9223372036854775807
def RdW (w:World) (l:List Rd) (v:Value):Prop:=RG 27 rdC w l v∧∀ x∈l,RdOk w x
theorem RdOk.later {w w':World} {x:Rd} (h:RdOk w x) (hb:Below w.heap.size w w'):RdOk w' x:=⟨h.z,h.d.later hb,h.what,h.n⟩
theorem RdW.later {w w':World} {l:List Rd} {v:Value} (h:RdW w l v) (hb:Below w.heap.size w w'):RdW w' l v:=⟨h.1.later hb,fun x hx=>(h.2 x hx).later hb⟩
section
variable {H:Type} {enc:TypeId × Value→H} {w:World} {base:Nat} {spare:Nat→Bool} {held:Bool} {fuel:Nat} {cs:List Value} {x:DataW H × List MemPlace}
theorem zzd (h:DataW.trod enc Tryz.prog w base spare held fuel 56 cs=some x):∃ q:Rd,cs=rdC q∧RdOk w q:=by
 obtain ⟨xs,n,hn,hx,hl,hxl,hf⟩:=DataW.trod_struct Tryz.underlying56 h
 have hl':cs.length=27:=hl.trans (by kernel_rfl)
 have hxl':xs.length=6:=hxl.trans (by kernel_rfl)
 have g0:DataW.trod enc Tryz.prog w base spare held n 3 ((cs.drop 0).take (Tryz.prog.cellsOf 3))=xs[0]?:=hf 0 _ rfl
 have g1:DataW.trod enc Tryz.prog w base spare held n 3 ((cs.drop 1).take (Tryz.prog.cellsOf 3))=xs[1]?:=hf 1 _ rfl
 have g2:DataW.trod enc Tryz.prog w base spare held n 50 ((cs.drop 2).take (Tryz.prog.cellsOf 50))=xs[2]?:=hf 2 _ rfl
 have g3:DataW.trod enc Tryz.prog w base spare held n 52 ((cs.drop 11).take (Tryz.prog.cellsOf 52))=xs[3]?:=hf 3 _ rfl
 have g4:DataW.trod enc Tryz.prog w base spare held n 52 ((cs.drop 13).take (Tryz.prog.cellsOf 52))=xs[4]?:=hf 4 _ rfl
 have g5:DataW.trod enc Tryz.prog w base spare held n 54 ((cs.drop 15).take (Tryz.prog.cellsOf 54))=xs[5]?:=hf 5 _ rfl
 rw [show Tryz.prog.cellsOf 3=1 by kernel_rfl,List.getElem?_eq_getElem (by omega)] at g0 g1
 rw [show Tryz.prog.cellsOf 50=9 by kernel_rfl,List.getElem?_eq_getElem (by omega)] at g2
 rw [show Tryz.prog.cellsOf 52=2 by kernel_rfl,List.getElem?_eq_getElem (by omega)] at g3 g4
 rw [show Tryz.prog.cellsOf 54=12 by kernel_rfl,List.getElem?_eq_getElem (by omega)] at g5
 match cs,hl' with
 | [c0,c1,c2,c3,c4,c5,c6,c7,c8,c9,c10,c11,c12,c13,c14,c15,c16,c17,c18,c19,c20,c21,c22,c23,c24,c25,c26],_ =>
   obtain ⟨z0,k0,_,w0⟩:=DataW.trod_int Tryz.underlying3 g0
   obtain ⟨z1,k1,_,w1⟩:=DataW.trod_int Tryz.underlying3 g1
   obtain ⟨id,r,c,st,kd,nn,x,y,d,k2,h4,h5,_⟩:=zxm g2
   obtain ⟨r3,q3,k3,_⟩:=zm2 g3
   obtain ⟨r4,q4,k4,_⟩:=zm2 g4
   obtain ⟨dd,fv,k5,r5⟩:=zu4 g5
   simp at k0 k1 k2 k3 k4 k5
   obtain ⟨a1,a2,a3,a4,a5,a6,a7,a8,a9⟩:=k2
   obtain ⟨b1,b2⟩:=k3
   obtain ⟨e1,e2⟩:=k4
   obtain ⟨d1,d2,d3,d4,d5,d6,d7,d8,d9,d10,d11,d12⟩:=k5
   subst k0 k1 a1 a2 a3 a4 a5 a6 a7 a8 a9 b1 b2 e1 e2 d1 d2 d3 d4 d5 d6 d7 d8 d9 d10 d11 d12
   refine ⟨⟨z0,z1,⟨id,r,c,st,kd,nn,x,y,d⟩,r3,q3,r4,q4,dd,_⟩,rfl,⟨h4,h5⟩,r5,?_,?_⟩
   · simp [Lit.wf,IntKind.min,IntKind.max,IntKind.signed,IntKind.bits] at w0
     show -9223372036854775808≤z0∧z0≤9223372036854775807
     omega
   · simp [Lit.wf,IntKind.min,IntKind.max,IntKind.signed,IntKind.bits] at w1
     show -9223372036854775808≤z1∧z1≤9223372036854775807
     omega
theorem zwl {r:Reach} {b0:Nat} {v:Value} {d:DataW H} {p:List MemPlace} (hv:Value.okWide Tryz.prog w r b0 26 v) (h:DataW.Trod enc Tryz.prog w base spare held 26 v d p) :
   ∃ (l:List Rd),RdW w l v:=by
 obtain ⟨a,len,cap,rfl⟩:=okWide_slice Tryz.underlying26 hv
 obtain ⟨f,hf⟩:=h
 obtain ⟨l,u,e,hl,ho⟩:=zze Tryz.underlying26 (sz:=27) (by kernel_rfl) (by decide) rdC (fun _=>rfl) (RdOk w) (fun _ _ _ h=>zzd h) hf
 have e':Value.slice a len cap=u:=by simpa [Value.cells] using e
 rw [e']
 exact ⟨l,hl,ho⟩
end
end Go.Proofs.YtodfhabkdaiopaaGreat
