/- Joined: RefAlike, RefMayK, Pr, PlainM. -/
import Derived.Test.YthnllikalobmeaaGreatJ10
import Derived.Deep.CutBlock
import Derived.Deep.DeepCutAuto
import Derived.Test.YthnllikalobmeaaGreatJ11
import Derived.Deep.RegionHeld3
import Derived.Test.YthnllikalobmeaaGreatJ06
namespace Go.Proofs.YthnllikalobmeaaGreat
set_option linter.unusedVariables false
set_option linter.unusedSimpArgs false
set_option maxRecDepth 100000
set_option maxHeartbeats 8000000
open Go.RowKit
theorem y12h {p:Prop} (h:p):Hid p:=Lib.hid h
theorem zl8:∀ {l m:List ByteArray},l.length ≠ m.length → zb9 l m = false
 | [],[],h=>absurd rfl h
 | [],_ :: _,_=>rfl
 | _ :: _,[],_=>rfl
 | a :: l,b :: m,h=>by
   simp only [zb9,Bool.and_eq_false_iff]
   exact .inr (zl8 fun e=>h (by simp [e]))
theorem zh1:∀ {l m:List ByteArray},l.length = m.length → (zb9 l m = true ↔ ∀ (j:Nat) (a b:ByteArray),l[j]? = some a → m[j]? = some b → (a.toList == b.toList) = true)
 | [],[],_=>by simp [zb9]
 | [],_ :: _,h=>by simp at h
 | _ :: _,[],h=>by simp at h
 | a :: l,b :: m,h=>by
   simp only [zb9,Bool.and_eq_true]
   rw [zh1 (by simpa using h)]
   constructor
   · rintro ⟨h1,h2⟩ j x y hx hy
     cases j with
     | zero=>simp at hx hy;subst hx hy;exact h1
     | succ j=>exact h2 j x y (by simpa using hx) (by simpa using hy)
   · intro h
     exact ⟨h 0 a b rfl rfl,fun j x y hx hy=>h (j + 1) x y (by simpa using hx) (by simpa using hy)⟩
theorem zwd {l m:List ByteArray} (hl:l.length = m.length) {j:Nat} {a b:ByteArray} (ha:l[j]? = some a) (hb:m[j]? = some b) (h:(a.toList == b.toList) = false):zb9 l m = false:=by
 cases e:zb9 l m with
 | false=>rfl
 | true=>rw [(zh1 hl).1 e j a b ha hb] at h;cases h
theorem zl7:∀ {l m:List Fr},l.length ≠ m.length → zbv l m = false
 | [],[],h=>absurd rfl h
 | [],_ :: _,_=>rfl
 | _ :: _,[],_=>rfl
 | a :: l,b :: m,h=>by
   simp only [zbv,Bool.and_eq_false_iff]
   exact .inr (zl7 fun e=>h (by simp [e]))
theorem zh0:∀ {l m:List Fr},l.length = m.length → (zbv l m = true ↔ ∀ (j:Nat) (a b:Fr),l[j]? = some a → m[j]? = some b → eqFr a b = true)
 | [],[],_=>by simp [zbv]
 | [],_ :: _,h=>by simp at h
 | _ :: _,[],h=>by simp at h
 | a :: l,b :: m,h=>by
   simp only [zbv,Bool.and_eq_true]
   rw [zh0 (by simpa using h)]
   constructor
   · rintro ⟨h1,h2⟩ j x y hx hy
     cases j with
     | zero=>simp at hx hy;subst hx hy;exact h1
     | succ j=>exact h2 j x y (by simpa using hx) (by simpa using hy)
   · intro h
     exact ⟨h 0 a b rfl rfl,fun j x y hx hy=>h (j + 1) x y (by simpa using hx) (by simpa using hy)⟩
theorem zjq {l m:List Fr} (hl:l.length = m.length) {j:Nat} {a b:Fr} (ha:l[j]? = some a) (hb:m[j]? = some b) (h:eqFr a b = false):zbv l m = false:=by
 cases e:zbv l m with
 | false=>rfl
 | true=>rw [(zh0 hl).1 e j a b ha hb] at h;cases h
structure AlS (w:World) (X Y:Array Value) (wr:World):Prop where
 o1:Has wr w.heap.size X
 o2:Has wr (w.heap.size + 1) Y
 bel:Below w.heap.size w wr
theorem AlS.later {w wr w':World} {X Y:Array Value} (h:AlS w X Y wr) (hb:Below wr.heap.size wr w'):AlS w X Y w' :=
 ⟨h.o1.below hb h.o1.lt,h.o2.below hb h.o2.lt,h.bel.trans (hb.mono h.bel.size)⟩
def z1i (l m:List Fr) (len:Nat) (X Y:Array Value) (w:World) (iv:Value) (wr:World):Prop :=
 ∃ k:Nat,k ≤ len ∧ iv = .int .i64 k ∧ Hid (∀ j a b,j < k → l[j]? = some a → m[j]? = some b → eqFr a b = true) ∧ Hid (AlS w X Y wr)
def zz1 (l m:List ByteArray) (len:Nat) (X Y:Array Value) (w:World) (iv:Value) (wr:World):Prop :=
 ∃ k:Nat,k ≤ len ∧ iv = .int .i64 k ∧ Hid (∀ j a b,j < k → l[j]? = some a → m[j]? = some b → (a.toList == b.toList) = true) ∧ Hid (AlS w X Y wr)
theorem zi6 (a b:Kn) (v v':Value) (w:World) (hR:FrW w a.l v) (hM:FrW w b.l v') :
   Calls Tryz.prog 47 #[knV a.star v,knV b.star v'] w fun e w'=>e = .returned (.bool (zbp a b)) ∧ Below w.heap.size w w':=by
 obtain ⟨A,l⟩:=a
 obtain ⟨B,m⟩:=b
 simp only at hR hM ⊢
 obtain ⟨U,oa,cap,b0,o,rfl,hr⟩:=hR
 obtain ⟨U',oa',cap',b0',o',rfl,hr'⟩:=hM
 have HR:=y12h hr
 have HR':=y12h hr'
 have hcap:=hr.len
 have hmax:=hr.max
 have hcap':=hr'.len
 have hmax':=hr'.max
 unfold maxLen at hmax hmax'
 clear hr hr'
 have HE:=y12h (show zbp ⟨A,l⟩ ⟨B,m⟩ = (eqV A B && zbv l m) from rfl)
 generalize zbp ⟨A,l⟩ ⟨B,m⟩ = res at *
 generalize hn:l.length = len at *
 have HN:=y12h hn
 generalize hn':m.length = len' at *
 have HN':=y12h hn'
 clear hn hn'
 have I0:AlS w (knA A (.slice oa len cap)) (knA B (.slice oa' len' cap')) ((w.alloc (.cells (knA A (.slice oa len cap)) 31)).alloc (.cells (knA B (.slice oa' len' cap')) 31)) :=
   ⟨(Has.new w _ _).alloc _,(Own.newAt _ _ _ (by simp)).has,((Below.refl _ _).alloc (Nat.le_refl _) _).alloc (by simp) _⟩
 have HI0:=y12h I0
 clear I0
 have hq:=fun w'=>show (Op.equalIn 10000 28 (.agg #[.int .i64 (A 0),.int .i64 (A 1),.int .i64 (A 2),.int .i64 (A 3),.int .i64 (A 4),.int .i64 (A 5),.int .i64 (A 6),.int .i64 (A 7)]) (.agg #[.int .i64 (B 0),.int .i64 (B 1),.int .i64 (B 2),.int .i64 (B 3),.int .i64 (B 4),.int .i64 (B 5),.int .i64 (B 6),.int .i64 (B 7)])).run Tryz.prog w' = .ok (eqV A B) w' from zek A B w'
 cases hqq:eqV A B
 · rw [hqq] at hq
   have E:=y12h (show res = false by rw [HE.out,hqq];rfl)
   clear hqq
   go_enter Tryz.func47,Tryz.ntmps47
   go_wp2_with fail
   go_ret
   exact ⟨zaa E.out.symm,HI0.out.bel⟩
 rw [hqq] at hq
 have HE2:=y12h (show res = zbv l m by rw [HE.out,hqq];rfl)
 clear hqq HE
 by_cases hne:len = len'
 case neg =>
   have E:=y12h (show res = false by rw [HE2.out];exact zl7 (by rw [HN.out,HN'.out];exact hne))
   have hne1:((len:Int) == (len':Int)) = false:=by simp;omega
   have hne2:((len:Int) != (len':Int)) = true:=by simp;omega
   go_enter Tryz.func47,Tryz.ntmps47
   go_wp2_with fail
   go_ret
   exact ⟨zaa E.out.symm,HI0.out.bel⟩
 subst hne
 go_enter Tryz.func47,Tryz.ntmps47
 go_wp2_with fail
 clear hq
 go_loopw [5] (fun iv wr=>z1i l m len (knA A (.slice oa len cap)) (knA B (.slice oa' len cap')) w iv wr) (fun iv _=>len - (intOf iv).toNat)
 case atStart=>exact ⟨0,Nat.zero_le _,rfl,fun j a b hj=>absurd hj (by omega),HI0⟩
 case round =>
   clear HI0
   obtain ⟨k,hk,rfl,HA,HS⟩:=hrel
   by_cases hlt:k < len
   · obtain ⟨f,hf⟩:∃ f,l[k]? = some f:=⟨_,List.getElem?_eq_getElem (by rw [HN.out];exact hlt)⟩
     obtain ⟨g,hg⟩:∃ g,m[k]? = some g:=⟨_,List.getElem?_eq_getElem (by rw [HN'.out];exact hlt)⟩
     obtain ⟨rfl,hb0⟩:=HR.out.at0 (by rw [HN.out];omega)
     obtain ⟨rfl,hb0'⟩:=HR'.out.at0 (by rw [HN'.out];omega)
     obtain ⟨ou,cu,bu,qu,hu,ht⟩:=HR.out.ids k f hf
     obtain ⟨ou',cu',bu',qu',hu',ht'⟩:=HR'.out.ids k g hg
     obtain ⟨c0,c1,c2,c3,c4,c5,c6,c7,c8⟩:=za6 (w:=wr) (fun j z hz=>(HS.out.bel.cell (p:=⟨b0,o + k * 9 + j,none⟩) hb0).trans (HR.out.cell k f hf j z hz))
     obtain ⟨d0,d1,d2,d3,d4,d5,d6,d7,d8⟩:=za6 (w:=wr) (fun j z hz=>(HS.out.bel.cell (p:=⟨b0',o' + k * 9 + j,none⟩) hb0').trans (HR'.out.cell k g hg j z hz))
     rw [hu] at c0
     rw [hu'] at d0
     have HF:=y12h hf
     have HG:=y12h hg
     have HU:=y12h hu
     have HU':=y12h hu'
     have HT:=y12h ht
     have HT':=y12h ht'
     have hcu:=ht.len
     have hmu:=ht.max
     have hcu':=ht'.len
     have hmu':=ht'.max
     unfold maxLen at hmu hmu'
     clear hf hg hu hu' ht ht'
     generalize hnf:f.ids.length = nf at *
     have HNF:=y12h hnf
     generalize hng:g.ids.length = ng at *
     have HNG:=y12h hng
     clear hnf hng
     have LA:=fun dd os q=>HS.out.o1.regrown dd os q
     have LB:=fun dd os q=>HS.out.o2.regrown dd os q
     have r0:=fun dd os=>cell_regrown c0 dd os
     have s0:=fun dd os=>cell_regrown d0 dd os
     have r1:=fun dd os=>cell_regrown c1 dd os
     have s1:=fun dd os=>cell_regrown d1 dd os
     have r2:=fun dd os=>cell_regrown c2 dd os
     have s2:=fun dd os=>cell_regrown d2 dd os
     have r3:=fun dd os=>cell_regrown c3 dd os
     have s3:=fun dd os=>cell_regrown d3 dd os
     have r4:=fun dd os=>cell_regrown c4 dd os
     have s4:=fun dd os=>cell_regrown d4 dd os
     have r5:=fun dd os=>cell_regrown c5 dd os
     have s5:=fun dd os=>cell_regrown d5 dd os
     have r6:=fun dd os=>cell_regrown c6 dd os
     have s6:=fun dd os=>cell_regrown d6 dd os
     have r7:=fun dd os=>cell_regrown c7 dd os
     have s7:=fun dd os=>cell_regrown d7 dd os
     have r8:=fun dd os=>cell_regrown c8 dd os
     have s8:=fun dd os=>cell_regrown d8 dd os
     clear c0 c1 c2 c3 c4 c5 c6 c7 c8 d0 d1 d2 d3 d4 d5 d6 d7 d8
     have l1:=HS.out.o1.cell
     have l2:=HS.out.o2.cell
     have z1:=HS.out.o1.lt
     have z2:=HS.out.o2.lt
     have k0:(0:Int) ≤ (k:Int):=by omega
     have k1:(k:Int) < (len:Int):=by omega
     have hq:=fun w'=>show (Op.equalIn 10000 28 (.agg #[.int .i64 (f.v 0),.int .i64 (f.v 1),.int .i64 (f.v 2),.int .i64 (f.v 3),.int .i64 (f.v 4),.int .i64 (f.v 5),.int .i64 (f.v 6),.int .i64 (f.v 7)]) (.agg #[.int .i64 (g.v 0),.int .i64 (g.v 1),.int .i64 (g.v 2),.int .i64 (g.v 3),.int .i64 (g.v 4),.int .i64 (g.v 5),.int .i64 (g.v 6),.int .i64 (g.v 7)])).run Tryz.prog w' = .ok (eqV f.v g.v) w' from zek f.v g.v w'
     cases hqq:eqV f.v g.v
     · rw [hqq] at hq
       have E:=y12h (show res = false by rw [HE2.out];exact zjq (by rw [HN.out,HN'.out]) HF.out HG.out (by unfold eqFr;rw [hqq];rfl))
       clear hqq
       go_wp2_with fail
       refine wp_region_quiet_below (by kernel_rfl) (by kernel_rfl) ?_
       repeat (first | go_big_quiet_step (fail) | quiet_step (fail))
       refine wpQuiet_nil ?_
       intro w7 hw'
       have hb':=y12h (zac hw')
       clear hw'
       clear r0 s0 r1 s1 r2 s2 r3 s3 r4 s4 r5 s5 r6 s6 r7 s7 r8 s8 LA LB hq l1 l2
       go_wp2_with fail
       go_ret
       exact ⟨zaa E.out.symm,HS.out.bel.trans (hb'.out.mono HS.out.bel.size)⟩
     rw [hqq] at hq
     by_cases hne:nf = ng
     case neg =>
       have E:=y12h (show res = false by rw [HE2.out];exact zjq (by rw [HN.out,HN'.out]) HF.out HG.out (by unfold eqFr;rw [zl8 (by rw [HNF.out,HNG.out];exact hne)];simp))
       have hne1:((nf:Int) == (ng:Int)) = false:=by simp;omega
       have hne2:((nf:Int) != (ng:Int)) = true:=by simp;omega
       clear hqq
       go_wp2_with fail
       refine wp_region_quiet_below (by kernel_rfl) (by kernel_rfl) ?_
       repeat (first | go_big_quiet_step (fail) | quiet_step (fail))
       refine wpQuiet_nil ?_
       intro w7 hw'
       have hb':=y12h (zac hw')
       clear hw'
       clear r0 s0 r1 s1 r2 s2 r3 s3 r4 s4 r5 s5 r6 s6 r7 s7 r8 s8 LA LB hq l1 l2
       go_wp2_with fail
       go_ret
       exact ⟨zaa E.out.symm,HS.out.bel.trans (hb'.out.mono HS.out.bel.size)⟩
     subst hne
     have HQ:=y12h hqq
     clear hqq
     go_wp2_with fail
     refine wp_region_quiet_below (by kernel_rfl) (by kernel_rfl) ?_
     repeat (first | go_big_quiet_step (fail) | quiet_step (fail))
     refine wpQuiet_nil ?_
     intro w7 hw'
     have hb':=y12h (zac hw')
     clear hw'
     clear r0 s0 r1 s1 r2 s2 r3 s3 r4 s4 r5 s5 r6 s6 r7 s7 r8 s8 LA LB hq l1 l2 z1 z2
     have HS7:=y12h (HS.out.later hb'.out)
     clear hb' HS
     go_wp2_with fail
     go_loopw [6] (fun iv wr=>zz1 f.ids g.ids nf (knA A (.slice (some ⟨b0,o,none⟩) len cap)) (knA B (.slice (some ⟨b0',o',none⟩) len cap')) w iv wr) (fun iv _=>nf - (intOf iv).toNat)
     case atStart=>exact ⟨0,Nat.zero_le _,rfl,fun j a b hj=>absurd hj (by omega),HS7⟩
     case round =>
       clear HS7
       obtain ⟨j,hj,rfl,HB,HS⟩:=hrel
       have l1:=HS.out.o1.cell
       have l2:=HS.out.o2.cell
       have z1:=HS.out.o1.lt
       have z2:=HS.out.o2.lt
       obtain ⟨c0,_⟩:=za6 (w:=wr) (fun j z hz=>(HS.out.bel.cell (p:=⟨b0,o + k * 9 + j,none⟩) hb0).trans (HR.out.cell k f HF.out j z hz))
       obtain ⟨d0,_⟩:=za6 (w:=wr) (fun j z hz=>(HS.out.bel.cell (p:=⟨b0',o' + k * 9 + j,none⟩) hb0').trans (HR'.out.cell k g HG.out j z hz))
       rw [HU.out] at c0
       rw [HU'.out] at d0
       by_cases hjt:j < nf
       · obtain ⟨x,hx⟩:∃ x,f.ids[j]? = some x:=⟨_,List.getElem?_eq_getElem (by rw [HNF.out];exact hjt)⟩
         obtain ⟨y,hy⟩:∃ y,g.ids[j]? = some y:=⟨_,List.getElem?_eq_getElem (by rw [HNG.out];exact hjt)⟩
         obtain ⟨rfl,hb1⟩:=HT.out.at0 (by rw [HNF.out];omega)
         obtain ⟨rfl,hb1'⟩:=HT'.out.at0 (by rw [HNG.out];omega)
         have x0:=(HS.out.bel.cell (p:=⟨bu,qu + j,none⟩) hb1).trans (HT.out.cell j x hx)
         have y0:=(HS.out.bel.cell (p:=⟨bu',qu' + j,none⟩) hb1').trans (HT'.out.cell j y hy)
         have r0:=fun dd os=>cell_regrown c0 dd os
         have s0:=fun dd os=>cell_regrown d0 dd os
         have rx:=fun dd os=>cell_regrown x0 dd os
         have ry:=fun dd os=>cell_regrown y0 dd os
         have LA:=fun dd os q=>HS.out.o1.regrown dd os q
         have LB:=fun dd os q=>HS.out.o2.regrown dd os q
         have j0:(0:Int) ≤ (j:Int):=by omega
         have j1:(j:Int) < (nf:Int):=by omega
         have HX:=y12h hx
         have HY:=y12h hy
         clear hx hy x0 y0
         cases ht:(x.toList == y.toList)
         · have E:=y12h (show res = false by rw [HE2.out];exact zjq (by rw [HN.out,HN'.out]) HF.out HG.out (by unfold eqFr;rw [zwd (by rw [HNF.out,HNG.out]) HX.out HY.out ht];simp))
           go_wp2_with fail
           refine wp_region_quiet_below (by kernel_rfl) (by kernel_rfl) ?_
           repeat (first | go_big_quiet_step (fail) | quiet_step (fail))
           refine wpQuiet_nil ?_
           intro w7 hw'
           have hb':=y12h (zac hw')
           clear hw'
           clear r0 s0 rx ry LA LB l1 l2
           go_wp2_with fail
           go_ret
           exact ⟨zaa E.out.symm,HS.out.bel.trans (hb'.out.mono HS.out.bel.size)⟩
         · have HB2:=y12h (show ∀ q a b,q < j + 1 → f.ids[q]? = some a → g.ids[q]? = some b → (a.toList == b.toList) = true from fun q a b hq ha hb=>by
             by_cases e:q = j
             · subst e;rw [HX.out] at ha;rw [HY.out] at hb;cases ha;cases hb;exact ht
             · exact HB.out q a b (by omega) ha hb)
           go_wp2_with fail
           refine wp_region_quiet_below (by kernel_rfl) (by kernel_rfl) ?_
           repeat (first | go_big_quiet_step (fail) | quiet_step (fail))
           refine wpQuiet_nil ?_
           intro w7 hw'
           have hb':=y12h (zac hw')
           clear hw'
           clear r0 s0 rx ry LA LB l1 l2
           have HS7:=y12h (HS.out.later hb'.out)
           go_wp2_with fail
           go_roundw
           case rel=>exact ⟨j + 1,by omega,by go_num,HB2,HS7⟩
           case measure=>simp [intOf];omega
       · have e:nf = j:=by omega
         subst e
         have HA2:=y12h (show ∀ q a b,q < k + 1 → l[q]? = some a → m[q]? = some b → eqFr a b = true from fun q a b hq ha hb=>by
           by_cases e:q = k
           · subst e
             rw [HF.out] at ha;rw [HG.out] at hb;cases ha;cases hb
             unfold eqFr
             rw [HQ.out,(zh1 (by rw [HNF.out,HNG.out])).2 fun j x y hx hy=>HB.out j x y (by have:=posA hx;rw [HNF.out] at this;exact this) hx hy];rfl
           · exact HA.out q a b (by omega) ha hb)
         go_wp2_with fail
         go_roundw
         case rel=>exact ⟨k + 1,by omega,by go_num,HA2,HS⟩
         case measure=>simp [intOf];omega
   · have e:len = k:=by omega
     subst e
     have E:=y12h (show res = true by
       rw [HE2.out]
       exact (zh0 (by rw [HN.out,HN'.out])).2 fun j x y hx hy=>HA.out j x y (by have:=posA hx;rw [HN.out] at this;exact this) hx hy)
     have l1:=HS.out.o1.cell
     have l2:=HS.out.o2.cell
     have z1:=HS.out.o1.lt
     have z2:=HS.out.o2.lt
     go_wp2_with fail
     go_ret
     exact ⟨zaa E.out.symm,HS.out.bel⟩
def zc8 (nm:ByteArray → Bool) (f:Fr):Bool:=mayV f.v && f.ids.all nm
def mayK (nm:ByteArray → Bool) (a:Kn):Bool:=(zbp a (zah a) && mayV a.star) && a.l.all (zc8 nm)
structure MkS (w:World) (X:Array Value) (wr:World):Prop where
 o1:Has wr w.heap.size X
 bel:Below w.heap.size w wr
theorem MkS.later {w wr w':World} {X:Array Value} (h:MkS w X wr) (hb:Below wr.heap.size wr w'):MkS w X w' :=
 ⟨h.o1.below hb h.o1.lt,h.bel.trans (hb.mono h.bel.size)⟩
def z1w (p:Fr → Bool) (l:List Fr) (len:Nat) (X:Array Value) (w:World) (iv:Value) (wr:World):Prop :=
 ∃ k:Nat,k ≤ len ∧ iv = .int .i64 k ∧ Hid (∀ j f,j < k → l[j]? = some f → p f = true) ∧ Hid (MkS w X wr)
def z0b (p:ByteArray → Bool) (l:List ByteArray) (len:Nat) (X:Array Value) (w:World) (iv:Value) (wr:World):Prop :=
 ∃ k:Nat,k ≤ len ∧ iv = .int .i64 k ∧ Hid (∀ j f,j < k → l[j]? = some f → p f = true) ∧ Hid (MkS w X wr)
theorem zj6 {α:Type} {p:α → Bool} {l:List α} (h:∀ j f,j < l.length → l[j]? = some f → p f = true):l.all p = true:=by
 rw [List.all_eq_true]
 intro f hf
 obtain ⟨j,hj,e⟩:=List.mem_iff_getElem.1 hf
 exact h j f hj (by rw [List.getElem?_eq_getElem hj,e])
theorem zdt {α:Type} {p:α → Bool} {l:List α} {j:Nat} {f:α} (h:l[j]? = some f) (hp:p f = false):l.all p = false:=by
 rw [List.all_eq_false]
 exact ⟨f,List.mem_of_getElem? h,by simp [hp]⟩
theorem zni (nm:ByteArray → Bool) (HNM:∀ (s:ByteArray) (w:World),s.size ≤ maxLen → Calls Tryz.prog 91 #[.string s] w fun e w'=>e = .returned (.bool (nm s)) ∧ w = w')
   (a:Kn) (v:Value) (w:World) (hR:FrW w a.l v) (hl1:(zag a.l).length ≤ 10000) :
   Calls Tryz.prog 42 #[knV a.star v] w fun e w'=>e = .returned (.bool (mayK nm a)) ∧ Below w.heap.size w w':=by
 have hRR:=hR
 obtain ⟨U,ov,cv,b0,o,rfl,hr⟩:=hR
 have HR:=y12h hr
 have hcap:=hr.len
 have hmax:=hr.max
 unfold maxLen at hmax
 clear hr
 have PA:=fun w' h=>y12h (zdy a (.slice ov a.l.length cv) w' h hl1)
 have AK:=fun va vb w' h h'=>y12h (show Calls Tryz.prog 47 #[knV a.star va,knV a.star vb] w' (fun e w''=>e = .returned (.bool (zbp a (zah a))) ∧ Below w'.heap.size w' w'') from zi6 a (zah a) va vb w' h h')
 have MV:=fun (f:Nat → Int) w'=>y12h (zpd f w')
 have OA:=y12h (Has.new w (knA a.star (.slice ov a.l.length cv)) 31)
 have BEL:=y12h ((Below.refl w.heap.size w).alloc (Nat.le_refl _) (.cells (knA a.star (.slice ov a.l.length cv)) 31))
 have LA:=y12h (hRR.later BEL.out (Nat.le_refl _))
 clear hRR hl1
 have HE:=y12h (show mayK nm a = ((zbp a (zah a) && mayV a.star) && a.l.all (zc8 nm)) from rfl)
 generalize mayK nm a = res at *
 generalize zbp a (zah a) = x1 at *
 generalize hx2:mayV a.star = x2 at *
 have HX2:=y12h hx2
 clear hx2
 generalize hn:a.l.length = len at *
 have HN:=y12h hn
 clear hn
 go_enter Tryz.func42,Tryz.ntmps42
 go_wp2_with fail
 replace OA:=y12h (OA.out.drew)
 replace LA:=y12h (LA.out.later (Below.refl _ _).drew (Nat.le_refl _))
 replace BEL:=y12h (BEL.out.drew)
 go_region_held3 (fun w'=>∀ o,w'.cell? ⟨w.heap.size,o,none⟩ = (knA a.star (.slice ov len cv))[o]?) (exact OA.out.cell)
   (first
     | (go_simp;go_at_call 89;refine (PA _ LA.out).out.mono ?_;rintro e wa ⟨va,rfl,hfa,hb⟩;replace hfa:=hfa.fr;obtain ⟨oa,ca,rfl⟩:=hfa.val;have LPA:=y12h hfa;replace OA:=y12h (OA.out.below hb OA.out.lt);replace LA:=y12h (LA.out.later hb (Nat.le_refl _));replace BEL:=y12h (BEL.out.trans (hb.mono BEL.out.size));clear hb;clear hfa)
     | (go_simp;go_at_call 47;refine (AK _ _ _ LA.out LPA.out).out.mono ?_;rintro e wc ⟨rfl,hb⟩;replace OA:=y12h (OA.out.below hb OA.out.lt);replace BEL:=y12h (BEL.out.trans (hb.mono BEL.out.size));clear hb))
 rename World=>W9
 clear PA AK LA
 have MV2:=y12h (MV a.star W9)
 rw [HX2.out] at MV2
 have MV0:=MV2.out
 have lOA:=OA.out.cell
 have zOA:=OA.out.lt
 cases x1
 · go_wp2_with (go_at_call 90;refine MV0.out.mono ?_;rintro e wb ⟨rfl,hb⟩)
   go_ret
   exact ⟨zaa (by rw [HE.out];rfl),BEL.out.trans (hb.mono BEL.out.size)⟩
 cases x2
 · go_wp2_with (go_at_call 90;refine MV0.out.mono ?_;rintro e wb ⟨rfl,hb⟩)
   go_ret
   exact ⟨zaa (by rw [HE.out];rfl),BEL.out.trans (hb.mono BEL.out.size)⟩
 have HE2:=y12h (show res = a.l.all (zc8 nm) by rw [HE.out];rfl)
 clear HE
 go_wp2_with (go_at_call 90;refine MV0.out.mono ?_;rintro e wb ⟨rfl,hb⟩;have HS0:=y12h (show MkS w (knA a.star (.slice ov len cv)) wb from ⟨OA.out.below hb OA.out.lt,BEL.out.trans (hb.mono BEL.out.size)⟩))
 clear hb lOA zOA OA BEL MV0 MV2 HX2
 go_loopw [5] (fun iv wr=>z1w (zc8 nm) a.l len (knA a.star (.slice ov len cv)) w iv wr) (fun iv _=>len - (intOf iv).toNat)
 case atStart=>exact ⟨0,Nat.zero_le _,rfl,fun j f hj=>absurd hj (by omega),HS0⟩
 case round =>
   clear HS0
   obtain ⟨k,hk,rfl,HA,HS⟩:=hrel
   have l1:=HS.out.o1.cell
   have z1:=HS.out.o1.lt
   by_cases hlt:k < len
   · obtain ⟨f,hf⟩:∃ f,a.l[k]? = some f:=⟨_,List.getElem?_eq_getElem (by rw [HN.out];exact hlt)⟩
     obtain ⟨rfl,hb0⟩:=HR.out.at0 (by rw [HN.out];omega)
     obtain ⟨c0,c1,c2,c3,c4,c5,c6,c7,c8⟩:=za6 (w:=wr) (fun j z hz=>(HS.out.bel.cell (p:=⟨b0,o + k * 9 + j,none⟩) hb0).trans (HR.out.cell k f hf j z hz))
     obtain ⟨ou,cu,bu,qu,hu,ht⟩:=HR.out.ids k f hf
     have zb:=Nat.lt_of_lt_of_le hb0 HS.out.bel.size
     have M:=MV f.v wr
     have HF:=y12h hf
     have HU:=y12h hu
     have hcu:=ht.len
     have hmu:=ht.max
     unfold maxLen at hmu
     have HT:=y12h ht
     clear hf hu ht
     generalize hnf:f.ids.length = nf at *
     have HNF:=y12h hnf
     clear hnf
     have HFR:=y12h (show zc8 nm f = (mayV f.v && f.ids.all nm) from rfl)
     generalize mayV f.v = mv at *
     cases mv
     · have E:=y12h (show res = false by rw [HE2.out];exact zdt HF.out (by rw [HFR.out];rfl))
       go_wp2_with (go_at_call 90;refine M.out.mono ?_;rintro e wb ⟨rfl,hb⟩)
       go_ret
       exact ⟨zaa E.out.symm,HS.out.bel.trans (hb.mono HS.out.bel.size)⟩
     go_wp2_with (go_at_call 90;refine M.out.mono ?_;rintro e wb ⟨rfl,hb⟩;have HS7:=y12h (HS.out.later hb))
     clear hb l1 z1 c0 c1 c2 c3 c4 c5 c6 c7 c8 zb HS M
     go_loopw [7] (fun iv wr=>z0b nm f.ids nf (knA a.star (.slice (some ⟨b0,o,none⟩) len cv)) w iv wr) (fun iv _=>nf - (intOf iv).toNat)
     case atStart=>exact ⟨0,Nat.zero_le _,rfl,fun j f hj=>absurd hj (by omega),HS7⟩
     case round =>
       clear HS7
       obtain ⟨j,hj,rfl,HB,HS⟩:=hrel
       have l1:=HS.out.o1.cell
       have z1:=HS.out.o1.lt
       obtain ⟨c0,_⟩:=za6 (w:=wr) (fun j z hz=>(HS.out.bel.cell (p:=⟨b0,o + k * 9 + j,none⟩) hb0).trans (HR.out.cell k f HF.out j z hz))
       rw [HU.out] at c0
       have zb:=Nat.lt_of_lt_of_le hb0 HS.out.bel.size
       by_cases hjt:j < nf
       · obtain ⟨x,hx⟩:∃ x,f.ids[j]? = some x:=⟨_,List.getElem?_eq_getElem (by rw [HNF.out];exact hjt)⟩
         obtain ⟨rfl,hb1⟩:=HT.out.at0 (by rw [HNF.out];omega)
         have x0:=(HS.out.bel.cell (p:=⟨bu,qu + j,none⟩) hb1).trans (HT.out.cell j x hx)
         have zu:=Nat.lt_of_lt_of_le hb1 HS.out.bel.size
         have NX:=y12h (HNM x wr (HT.out.ok x (List.mem_of_getElem? hx)))
         have HX:=y12h hx
         clear hx
         cases hnx:nm x
         · rw [hnx] at NX
           have E:=y12h (show res = false by rw [HE2.out];exact zdt HF.out (by rw [HFR.out,zdt HX.out hnx];rfl))
           clear hnx
           go_wp2_with (go_at_call 91;refine NX.out.mono ?_;rintro e wb ⟨rfl,rfl⟩)
           go_ret
           exact ⟨zaa E.out.symm,HS.out.bel⟩
         · rw [hnx] at NX
           have HB2:=y12h (show ∀ q g,q < j + 1 → f.ids[q]? = some g → nm g = true from fun q g hq hg=>by
             by_cases e:q = j
             · subst e;rw [HX.out] at hg;cases hg;exact hnx
             · exact HB.out q g (by omega) hg)
           clear hnx
           go_wp2_with (go_at_call 91;refine NX.out.mono ?_;rintro e wb ⟨rfl,rfl⟩)
           go_roundw
           case rel=>exact ⟨j + 1,by omega,by go_num,HB2,HS⟩
           case measure=>simp [intOf];omega
       · have e:nf = j:=by omega
         subst e
         have HA2:=y12h (show ∀ q g,q < k + 1 → a.l[q]? = some g → zc8 nm g = true from fun q g hq hg=>by
           by_cases e:q = k
           · subst e
             rw [HF.out] at hg;cases hg
             rw [HFR.out,zj6 (fun j x hj hx=>HB.out j x (by rw [HNF.out] at hj;exact hj) hx)];rfl
           · exact HA.out q g (by omega) hg)
         go_wp2_with fail
         go_roundw
         case rel=>exact ⟨k + 1,by omega,by go_num,HA2,HS⟩
         case measure=>simp [intOf];omega
   · have e:len = k:=by omega
     subst e
     have E:=y12h (show res = true by rw [HE2.out];exact zj6 (fun j x hj hx=>HA.out j x (by rw [HN.out] at hj;exact hj) hx))
     go_wp2_with fail
     go_ret
     exact ⟨zaa E.out.symm,HS.out.bel⟩
end Go.Proofs.YthnllikalobmeaaGreat
namespace Go.Proofs.YthnllikalobmeaaGreat
set_option linter.unusedVariables false
set_option linter.unusedSimpArgs false
set_option maxRecDepth 100000
set_option maxHeartbeats 8000000
inductive Pr where
 | node (op:Int) (text:ByteArray) (n:Int) (x y:Nat) (kids:List Pr)
namespace Pr
def op:Pr → Int | node o _ _ _ _ _=>o
def text:Pr → ByteArray | node _ t _ _ _ _=>t
def n:Pr → Int | node _ _ n _ _ _=>n
def x:Pr → Nat | node _ _ _ x _ _=>x
def y:Pr → Nat | node _ _ _ _ y _=>y
def kids:Pr → List Pr | node _ _ _ _ _ k=>k
theorem op_node (a:Int) (t:ByteArray) (c:Int) (d e:Nat) (k:List Pr):(node a t c d e k).op = a:=rfl
theorem text_node (a:Int) (t:ByteArray) (c:Int) (d e:Nat) (k:List Pr):(node a t c d e k).text = t:=rfl
theorem n_node (a:Int) (t:ByteArray) (c:Int) (d e:Nat) (k:List Pr):(node a t c d e k).n = c:=rfl
theorem x_node (a:Int) (t:ByteArray) (c:Int) (d e:Nat) (k:List Pr):(node a t c d e k).x = d:=rfl
theorem y_node (a:Int) (t:ByteArray) (c:Int) (d e:Nat) (k:List Pr):(node a t c d e k).y = e:=rfl
theorem kids_node (a:Int) (t:ByteArray) (c:Int) (d e:Nat) (k:List Pr):(node a t c d e k).kids = k:=rfl
theorem ind {P:Pr → Prop} (h:∀ op text n x y kids,(∀ k ∈ kids,P k) → P (node op text n x y kids)):∀ p,P p
 | node op text n x y kids=>h op text n x y kids (go kids)
where
 go:∀ l:List Pr,∀ k ∈ l,P k
   | [],k,hk=>absurd hk List.not_mem_nil
   | a :: l,k,hk=>by
     rcases List.mem_cons.1 hk with e | hk
     · rw [e];exact ind h a
     · exact go l k hk
mutual
def size:Pr → Nat | node _ _ _ _ _ k=>1 + sizes k
def sizes:List Pr → Nat | []=>0 | k :: l=>size k + sizes l
end
mutual
def depth:Pr → Nat | node _ _ _ _ _ k=>1 + depths k
def depths:List Pr → Nat | []=>0 | k :: l=>max (depth k) (depths l)
end
def bareB (t:ByteArray) (n:Int) (x y:Nat) (k:Nat):Bool:=decide (t.toList = []) && (decide (n = 0) && ((feq x 0 && feq y 0) && decide (k = 0)))
def partB (op:Int) (t:ByteArray) (n:Int) (x y:Nat) (k:Nat):Bool :=
 if op = 1 ∨ op = 2 then bareB t n x y k
 else if op = 3 ∨ op = 4 then txtB t && bareB ⟨#[]⟩ n x y k
 else if op = 5 ∨ op = 6 then (decide (-1000000 ≤ n) && decide (n ≤ 1000000)) && bareB t 0 x y k
 else if op = 7 then (mayB x y && (decide (0 ≤ n) && decide (n ≤ 8000000))) && bareB t 0 0 0 k
 else if op = 8 ∨ op = 9 then bareB t n x y 0
 else if op = 10 then decide (k = 1) && bareB t n x y 0
 else false
mutual
def all:Pr → Bool | node op t n x y k=>partB op t n x y k.length && alls k
def alls:List Pr → Bool | []=>true | k :: l=>all k && alls l
end
def fitsB (p:Pr) (s d:Int):Bool:=decide ((p.size:Int) ≤ s) && (decide ((p.depth:Int) ≤ d) && p.all)
def mayB (p:Pr):Bool:=p.fitsB 30 6
mutual
def same:Pr → Pr → Bool
 | node op t n x y k,node op' t' n' x' y' k'=>decide (op = op') && (decide (t.toList = t'.toList) && (decide (n = n') && ((feq x x' && feq y y') && sames k k')))
def sames:List Pr → List Pr → Bool
 | [],[]=>true
 | k :: l,k' :: l'=>same k k' && sames l l'
 | _,_=>false
end
theorem size_pos (p:Pr):1 ≤ p.size:=by cases p;simp [size]
theorem sizes_append (l m:List Pr):sizes (l ++ m) = sizes l + sizes m:=by
 induction l with
 | nil=>simp [sizes]
 | cons k l ih=>simp [sizes,ih];omega
theorem zhg (l m:List Pr):depths (l ++ m) = max (depths l) (depths m):=by
 induction l with
 | nil=>simp [depths]
 | cons k l ih=>simp [depths,ih]
theorem zqa (l m:List Pr):alls (l ++ m) = (alls l && alls m):=by
 induction l with
 | nil=>simp [alls]
 | cons k l ih=>simp [alls,ih,Bool.and_assoc]
theorem len_le_sizes (l:List Pr):l.length ≤ sizes l:=by
 induction l with
 | nil=>simp
 | cons k l ih=>simp [sizes];have:=size_pos k;omega
theorem size_mem {l:List Pr} {k:Pr} (h:k ∈ l):k.size ≤ sizes l:=by
 induction l with
 | nil=>simp at h
 | cons a l ih =>
   simp only [sizes]
   rcases List.mem_cons.1 h with rfl | h
   · omega
   · have:=ih h;omega
theorem depth_mem {l:List Pr} {k:Pr} (h:k ∈ l):k.depth ≤ depths l:=by
 induction l with
 | nil=>simp at h
 | cons a l ih =>
   simp only [depths]
   rcases List.mem_cons.1 h with rfl | h
   · omega
   · have:=ih h;omega
theorem all_mem {l:List Pr} {k:Pr} (h:k ∈ l) (ha:alls l = true):k.all = true:=by
 induction l with
 | nil=>simp at h
 | cons a l ih =>
   simp only [alls,Bool.and_eq_true] at ha
   rcases List.mem_cons.1 h with rfl | h
   · exact ha.1
   · exact ih h ha.2
theorem depth_le_size:∀ p:Pr,p.depth ≤ p.size:=by
 intro p
 induction p using ind with
 | h op t n x y k ih =>
   simp only [depth,size]
   have:depths k ≤ sizes k:=by
     induction k with
     | nil=>simp [depths]
     | cons a l ihl =>
       have h1:=ih a (by simp)
       have h2:=ihl fun b hb=>ih b (by simp [hb])
       simp only [depths,sizes];omega
   omega
theorem take_one {l:List Pr} {k:Nat} {p:Pr} (hp:l[k]? = some p):l.take (k + 1) = l.take k ++ [p]:=by
 obtain ⟨hk,e⟩:=List.getElem?_eq_some_iff.1 hp
 rw [List.take_succ_eq_append_getElem hk,e]
theorem sizes_take {l:List Pr} {k:Nat} {p:Pr} (hp:l[k]? = some p):sizes (l.take (k + 1)) = sizes (l.take k) + p.size:=by
 rw [take_one hp,sizes_append];simp [sizes]
theorem depths_take {l:List Pr} {k:Nat} {p:Pr} (hp:l[k]? = some p):depths (l.take (k + 1)) = max (depths (l.take k)) p.depth:=by
 rw [take_one hp,zhg];simp [depths]
theorem alls_take {l:List Pr} {k:Nat} {p:Pr} (hp:l[k]? = some p):alls (l.take (k + 1)) = (alls (l.take k) && p.all):=by
 rw [take_one hp,zqa];simp [alls]
theorem sizes_take_le (l:List Pr) (k:Nat):sizes (l.take k) ≤ sizes l:=by
 have h:=sizes_append (l.take k) (l.drop k)
 rw [List.take_append_drop] at h;omega
theorem depths_take_le (l:List Pr) (k:Nat):depths (l.take k) ≤ depths l:=by
 have h:=zhg (l.take k) (l.drop k)
 rw [List.take_append_drop] at h;omega
theorem take_all (l:List Pr) {k:Nat} (h:l.length ≤ k):l.take k = l:=List.take_of_length_le h
theorem zmv:∀ {l m:List Pr},sames l m = true → l.length = m.length
 | [],[],_=>rfl
 | [],_ :: _,h=>by simp [sames] at h
 | _ :: _,[],h=>by simp [sames] at h
 | a :: l,b :: m,h=>by
   simp only [sames,Bool.and_eq_true] at h
   simp [zmv h.2]
theorem sames_not_len {l m:List Pr} (h:l.length ≠ m.length):sames l m = false:=by
 cases e:sames l m with
 | false=>rfl
 | true=>exact absurd (zmv e) h
theorem sames_at {l m:List Pr} {k:Nat} {p q:Pr} (hp:l[k]? = some p) (hq:m[k]? = some q) (h:same p q = false):sames l m = false:=by
 induction l generalizing m k with
 | nil=>simp at hp
 | cons a l ih =>
   cases m with
   | nil=>simp at hq
   | cons b m =>
     cases k with
     | zero =>
       simp at hp hq;subst hp hq;simp [sames,h]
     | succ k =>
       simp at hp hq
       simp [sames,ih hp hq]
theorem sames_take {l m:List Pr} {k:Nat} {p q:Pr} (hp:l[k]? = some p) (hq:m[k]? = some q) (h0:sames (l.take k) (m.take k) = true) (h:same p q = true):sames (l.take (k + 1)) (m.take (k + 1)) = true:=by
 induction l generalizing m k with
 | nil=>simp at hp
 | cons a l ih =>
   cases m with
   | nil=>simp at hq
   | cons b m =>
     cases k with
     | zero =>
       simp at hp hq;subst hp hq;simp [sames,h]
     | succ k =>
       simp at hp hq
       simp only [List.take_succ_cons,sames,Bool.and_eq_true] at h0 ⊢
       exact ⟨h0.1,ih hp hq h0.2⟩
theorem zbu {t:ByteArray} {n:Int} {x y k:Nat} (h:bareB t n x y k = true):feq x 0 = true ∧ feq y 0 = true:=by
 simp only [bareB,Bool.and_eq_true] at h
 exact h.2.2.1
theorem zbk {x z:Nat} (h:feq x z = true):feq x x = true:=by
 have h1:Fl.f64.order x z = some .eq:=by
   unfold feq at h;exact eq_of_beq h
 have h2:Fl.f64.order x x = some .eq:=by
   unfold Ieee.Format.order at *
   revert h1
   generalize Fl.f64.read x = X
   generalize Fl.f64.read z = Z
   intro h1
   cases X <;> cases Z <;> simp [Ieee.Datum.order] at h1 ⊢
 unfold feq
 have h3:FloatKind.f64.format.order x x = some .eq:=h2
 rw [h3];rfl
theorem all_same:∀ p:Pr,p.all = true → same p p = true:=by
 intro p
 induction p using ind with
 | h op t n x y k ih =>
   intro h
   simp only [all,Bool.and_eq_true] at h
   have hk:sames k k = true:=by
     have h2:=h.2
     clear h
     induction k with
     | nil=>simp [sames]
     | cons a l ihl =>
       simp only [alls,Bool.and_eq_true] at h2
       simp only [sames,Bool.and_eq_true]
       exact ⟨ih a (by simp) h2.1,ihl (fun b hb=>ih b (by simp [hb])) h2.2⟩
   have hf:feq x x = true ∧ feq y y = true:=by
     have h1:=h.1
     unfold partB at h1
     split at h1
     · exact ⟨zbk (zbu h1).1,zbk (zbu h1).2⟩
     split at h1
     · simp only [Bool.and_eq_true] at h1
       exact ⟨zbk (zbu h1.2).1,zbk (zbu h1.2).2⟩
     split at h1
     · simp only [Bool.and_eq_true] at h1
       exact ⟨zbk (zbu h1.2).1,zbk (zbu h1.2).2⟩
     split at h1
     · simp only [Bool.and_eq_true] at h1
       have h3:=h1.1.1
       unfold Proofs.YthnllikalobmeaaGreat.mayB at h3
       simp only [Bool.and_eq_true] at h3
       exact ⟨zgx h3.1,zgx h3.2⟩
     split at h1
     · exact ⟨zbk (zbu h1).1,zbk (zbu h1).2⟩
     split at h1
     · simp only [Bool.and_eq_true] at h1
       exact ⟨zbk (zbu h1.2).1,zbk (zbu h1.2).2⟩
     · cases h1
   simp [same,hk,hf.1,hf.2]
end Pr
namespace Pr
def leaf (op:Int):Pr:=node op ⟨#[]⟩ 0 0 0 []
def flat (op:Int):List Pr → List Pr
 | []=>[]
 | k :: l=>(if k.op = op then k.kids else [k]) ++ flat op l
def z2h (l:List Pr) (a:Pr):Bool:=l.any fun b=>same b a
def zo5 (no:Int):List Pr → List Pr → List Pr
 | _,[]=>[]
 | pre,a :: l=>(if z2h pre a = true ∨ a.op = no then [] else [a]) ++ zo5 no (pre ++ [a]) l
def keep (no:Int) (l:List Pr):List Pr:=zo5 no [] l
def noOf (op:Int):Int:=if op = 9 then 2 else 1
def z2d (o:Int) (l:List Pr):Bool:=l.any fun b=>decide (b.op = o)
def z2f (op:Int) (t:ByteArray) (n:Int) (x y:Nat):List Pr → Pr
 | []=>leaf (noOf op)
 | [a]=>a
 | l=>node op t n x y l
def glue (op:Int) (t:ByteArray) (n:Int) (x y:Nat) (ks:List Pr):Pr :=
 if z2d (3 - noOf op) (flat op ks) = true then leaf (3 - noOf op) else z2f op t n x y (keep (noOf op) (flat op ks))
def turn (t:ByteArray) (n:Int) (x y:Nat):List Pr → Pr
 | [k]=>if k.op = 1 ∨ k.op = 2 then leaf (3 - k.op) else if k.op = 10 then k.kids.headD (leaf 0) else node 10 t n x y [k]
 | _=>node 10 t n x y []
def z0s (op:Int) (t:ByteArray) (n:Int) (x y:Nat) (ks:List Pr):Pr :=
 if op = 10 then turn t n x y ks else if op = 8 ∨ op = 9 then glue op t n x y ks else node op t n x y []
mutual
def plain:Pr → Pr | node op t n x y k=>z0s op t n x y (zu8 k)
def zu8:List Pr → List Pr | []=>[] | k :: l=>plain k :: zu8 l
end
end Pr
end Go.Proofs.YthnllikalobmeaaGreat
