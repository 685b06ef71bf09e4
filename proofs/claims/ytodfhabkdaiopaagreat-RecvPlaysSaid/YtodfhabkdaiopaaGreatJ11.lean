/- Joined: ListW, HasM, RefAlike, Lies. -/
import Derived.Test.YtodfhabkdaiopaaGreatJ09
import Derived.Test.YtodfhabkdaiopaaGreatJ10
import Derived.Test.YtodfhabkdaiopaaGreatJ08
import Derived.Deep.CutBlock
import Derived.Deep.DeepCutAuto
namespace Go.Proofs.YtodfhabkdaiopaaGreat
set_option linter.unusedVariables false
set_option linter.unusedSimpArgs false
set_option maxRecDepth 100000
set_option maxHeartbeats 8000000
open Go.RowKit
theorem y11h {p:Prop} (h:p):Go.RowKit.Hid p:=Lib.hid h
theorem Row.val {sz:Nat} {f:Itm→List Value} {w:World} {l:List Itm} {v:Value} (h:Row sz f w l v):∃ oa cap,v=.slice oa l.length cap:=by
 obtain ⟨oa,cap,_,_,e,_⟩:=h
 exact ⟨oa,cap,e⟩
theorem Row.alloc {sz:Nat} {f:Itm→List Value} {w:World} {l:List Itm} {v:Value} (h:Row sz f w l v) (o:Obj):Row sz f (w.alloc o) l v:=h.later ((Below.refl _ _).alloc (Nat.le_refl _) _)
theorem Row.drew {sz:Nat} {f:Itm→List Value} {w:World} {l:List Itm} {v:Value} (h:Row sz f w l v):Row sz f w.drew l v:=h.later (Below.refl _ _).drew
theorem Row.oks {sz:Nat} {f:Itm→List Value} {w:World} {l:List Itm} {v:Value} (h:Row sz f w l v):∀ i∈l,i.id.size≤maxLen∧i.kd.size≤maxLen:=by
 obtain ⟨_,_,_,_,_,h⟩:=h
 exact h.ok
abbrev iA (i:Itm):Array Value:=#[.string i.id,.int .i64 i.r,.int .i64 i.c,.int .i64 i.st,.string i.kd,.int .i64 i.num,.complex .f64 i.x i.y,.bool i.d]
theorem zfp (w:World) (z:Itm) (t:TypeId) (hz:z.id.size≤maxLen∧z.kd.size≤maxLen):Row 8 ic (w.alloc (.cells (iA z) t)) [z] (.slice (some ⟨w.heap.size,0,none⟩) 1 1):=by
 refine ⟨_,1,w.heap.size,0,rfl,Nat.le_refl _,by decide,fun _=>⟨rfl,by simp⟩,fun k i hk j u hu=>?_,fun i hi=>by simp at hi;subst hi;exact hz⟩
 match k,hk with
 | 0,hk =>
   simp at hk;subst hk
   have:=(Has.new w (iA z) t).cell j
   rw [Nat.zero_mul,Nat.zero_add,this]
   simpa using hu
def zdc (l:List Itm):Bool:=l.all mayT && zgl l
theorem zhc {f:Itm→Itm→Bool}:∀ {l:List Itm},(∀ i∈l,f i i=true)→zcl f l l=true
 | [],_=>rfl
 | a :: l,h=>by
   rw [zcl,h a (by simp),zhc fun i hi=>h i (by simp [hi])];rfl
theorem ziv {l m:List Itm} {f:Itm→Itm→Bool}:(zar f l m).length≤l.length + m.length:=by
 unfold zar
 induction m generalizing l with
 | nil=>simp
 | cons y m ih =>
   have:=zxi f l y
   have h:=ih (l:=zcm f l y)
   rw [List.foldl_cons]
   simp only [List.length_cons];omega
end Go.Proofs.YtodfhabkdaiopaaGreat
namespace Go.Proofs.YtodfhabkdaiopaaGreat
set_option linter.unusedVariables false
set_option linter.unusedSimpArgs false
set_option maxRecDepth 100000
set_option maxHeartbeats 8000000
structure It where
 id:ByteArray
 kd:ByteArray
 num:Int
 ax:Nat
 ay:Nat
def begB (s t:ByteArray):Bool:=t.data.toList.isPrefixOf s.data.toList
namespace Pr
mutual
def hasB (i:It):Pr→Bool
 | node op t n x y k =>
   if op=1 then true
   else if op=3 then decide (i.kd.toList=t.toList)
   else if op=4 then begB i.id t
   else if op=5 then decide (i.num < n)
   else if op=6 then decide (n≤i.num)
   else if op=7 then zix i.ax i.ay x y n
   else if op=8 then hasAll i k
   else if op=9 then hasAny i k
   else if op=10 then hasNot i k
   else false
def hasAll (i:It):List Pr→Bool | []=>true | a :: l=>hasB i a && hasAll i l
def hasAny (i:It):List Pr→Bool | []=>false | a :: l=>hasB i a || hasAny i l
def hasNot (i:It):List Pr→Bool | []=>false | a :: _=>!hasB i a
end
end Pr
end Go.Proofs.YtodfhabkdaiopaaGreat
namespace Go.Proofs.YtodfhabkdaiopaaGreat
set_option linter.unusedVariables false
set_option linter.unusedSimpArgs false
set_option maxRecDepth 100000
set_option maxHeartbeats 8000000
open Go.RowKit
theorem zmb:∀ {l m:List ByteArray},l.length ≠ m.length→zee l m=false
 | [],[],h=>absurd rfl h
 | [],_ :: _,_=>rfl
 | _ :: _,[],_=>rfl
 | a :: l,b :: m,h=>by
   simp only [zee,Bool.and_eq_false_iff]
   exact .inr (zmb fun e=>h (by simp [e]))
theorem zh4:∀ {l m:List ByteArray},l.length=m.length→(zee l m=true ↔ ∀ (j:Nat) (a b:ByteArray),l[j]?=some a→m[j]?=some b→(a.toList == b.toList)=true)
 | [],[],_=>by simp [zee]
 | [],_ :: _,h=>by simp at h
 | _ :: _,[],h=>by simp at h
 | a :: l,b :: m,h=>by
   simp only [zee,Bool.and_eq_true]
   rw [zh4 (by simpa using h)]
   constructor
   · rintro ⟨h1,h2⟩ j x y hx hy
     cases j with
     | zero=>simp at hx hy;subst hx hy;exact h1
     | succ j=>exact h2 j x y (by simpa using hx) (by simpa using hy)
   · intro h
     exact ⟨h 0 a b rfl rfl,fun j x y hx hy=>h (j + 1) x y (by simpa using hx) (by simpa using hy)⟩
theorem zvs {l m:List ByteArray} (hl:l.length=m.length) {j:Nat} {a b:ByteArray} (ha:l[j]?=some a) (hb:m[j]?=some b) (h:(a.toList == b.toList)=false):zee l m=false:=by
 cases e:zee l m with
 | false=>rfl
 | true=>rw [(zh4 hl).1 e j a b ha hb] at h;cases h
theorem zma:∀ {l m:List Fr},l.length ≠ m.length→zdm l m=false
 | [],[],h=>absurd rfl h
 | [],_ :: _,_=>rfl
 | _ :: _,[],_=>rfl
 | a :: l,b :: m,h=>by
   simp only [zdm,Bool.and_eq_false_iff]
   exact .inr (zma fun e=>h (by simp [e]))
theorem zh3:∀ {l m:List Fr},l.length=m.length→(zdm l m=true ↔ ∀ (j:Nat) (a b:Fr),l[j]?=some a→m[j]?=some b→eqFr a b=true)
 | [],[],_=>by simp [zdm]
 | [],_ :: _,h=>by simp at h
 | _ :: _,[],h=>by simp at h
 | a :: l,b :: m,h=>by
   simp only [zdm,Bool.and_eq_true]
   rw [zh3 (by simpa using h)]
   constructor
   · rintro ⟨h1,h2⟩ j x y hx hy
     cases j with
     | zero=>simp at hx hy;subst hx hy;exact h1
     | succ j=>exact h2 j x y (by simpa using hx) (by simpa using hy)
   · intro h
     exact ⟨h 0 a b rfl rfl,fun j x y hx hy=>h (j + 1) x y (by simpa using hx) (by simpa using hy)⟩
theorem zjs {l m:List Fr} (hl:l.length=m.length) {j:Nat} {a b:Fr} (ha:l[j]?=some a) (hb:m[j]?=some b) (h:eqFr a b=false):zdm l m=false:=by
 cases e:zdm l m with
 | false=>rfl
 | true=>rw [(zh3 hl).1 e j a b ha hb] at h;cases h
structure AlS (w:World) (X Y:Array Value) (wr:World):Prop where
 o1:Has wr w.heap.size X
 o2:Has wr (w.heap.size + 1) Y
 bel:Below w.heap.size w wr
theorem AlS.later {w wr w':World} {X Y:Array Value} (h:AlS w X Y wr) (hb:Below wr.heap.size wr w'):AlS w X Y w' :=
 ⟨h.o1.below hb h.o1.lt,h.o2.below hb h.o2.lt,h.bel.trans (hb.mono h.bel.size)⟩
def z00 (l m:List Fr) (len:Nat) (X Y:Array Value) (w:World) (iv:Value) (wr:World):Prop :=
 ∃ k:Nat,k≤len∧iv=.int .i64 k∧Hid (∀ j a b,j < k→l[j]?=some a→m[j]?=some b→eqFr a b=true)∧Hid (AlS w X Y wr)
def zzj (l m:List ByteArray) (len:Nat) (X Y:Array Value) (w:World) (iv:Value) (wr:World):Prop :=
 ∃ k:Nat,k≤len∧iv=.int .i64 k∧Hid (∀ j a b,j < k→l[j]?=some a→m[j]?=some b→(a.toList == b.toList)=true)∧Hid (AlS w X Y wr)
theorem zpn (a b:Kn) (v v':Value) (w:World) (hR:FrW w a.l v) (hM:FrW w b.l v') :
   Calls Tryz.prog 84 #[knV a.star v,knV b.star v'] w fun e w'=>e=.returned (.bool (zc8 a b))∧Below w.heap.size w w':=by
 obtain ⟨A,l⟩:=a
 obtain ⟨B,m⟩:=b
 simp only at hR hM ⊢
 obtain ⟨U,oa,cap,b0,o,rfl,hr⟩:=hR
 obtain ⟨U',oa',cap',b0',o',rfl,hr'⟩:=hM
 have HR:=y11h hr
 have HR':=y11h hr'
 have hcap:=hr.len
 have hmax:=hr.max
 have hcap':=hr'.len
 have hmax':=hr'.max
 unfold maxLen at hmax hmax'
 clear hr hr'
 have HE:=y11h (show zc8 ⟨A,l⟩ ⟨B,m⟩=(eqV A B && zdm l m) from rfl)
 generalize zc8 ⟨A,l⟩ ⟨B,m⟩=res at *
 generalize hn:l.length=len at *
 have HN:=y11h hn
 generalize hn':m.length=len' at *
 have HN':=y11h hn'
 clear hn hn'
 have I0:AlS w (knA A (.slice oa len cap)) (knA B (.slice oa' len' cap')) ((w.alloc (.cells (knA A (.slice oa len cap)) 38)).alloc (.cells (knA B (.slice oa' len' cap')) 38)) :=
   ⟨(Has.new w _ _).alloc _,(Own.newAt _ _ _ (by simp)).has,((Below.refl _ _).alloc (Nat.le_refl _) _).alloc (by simp) _⟩
 have HI0:=y11h I0
 clear I0
 have hq:=fun w'=>show (Op.equalIn 10000 35 (.agg #[.int .i64 (A 0),.int .i64 (A 1),.int .i64 (A 2),.int .i64 (A 3),.int .i64 (A 4),.int .i64 (A 5),.int .i64 (A 6),.int .i64 (A 7)]) (.agg #[.int .i64 (B 0),.int .i64 (B 1),.int .i64 (B 2),.int .i64 (B 3),.int .i64 (B 4),.int .i64 (B 5),.int .i64 (B 6),.int .i64 (B 7)])).run Tryz.prog w'=.ok (eqV A B) w' from zgf A B w'
 cases hqq:eqV A B
 · rw [hqq] at hq
   have E:=y11h (show res=false by rw [HE.out,hqq];rfl)
   clear hqq
   go_enter Tryz.func84,Tryz.ntmps84
   go_wp2_with fail
   go_ret
   exact ⟨zac E.out.symm,HI0.out.bel⟩
 rw [hqq] at hq
 have HE2:=y11h (show res=zdm l m by rw [HE.out,hqq];rfl)
 clear hqq HE
 by_cases hne:len=len'
 case neg =>
   have E:=y11h (show res=false by rw [HE2.out];exact zma (by rw [HN.out,HN'.out];exact hne))
   have hne1:((len:Int) == (len':Int))=false:=by simp;omega
   have hne2:((len:Int) != (len':Int))=true:=by simp;omega
   go_enter Tryz.func84,Tryz.ntmps84
   go_wp2_with fail
   go_ret
   exact ⟨zac E.out.symm,HI0.out.bel⟩
 subst hne
 go_enter Tryz.func84,Tryz.ntmps84
 go_wp2_with fail
 clear hq
 go_loopw [5] (fun iv wr=>z00 l m len (knA A (.slice oa len cap)) (knA B (.slice oa' len cap')) w iv wr) (fun iv _=>len - (intOf iv).toNat)
 case atStart=>exact ⟨0,Nat.zero_le _,rfl,fun j a b hj=>absurd hj (by omega),HI0⟩
 case round =>
   clear HI0
   obtain ⟨k,hk,rfl,HA,HS⟩:=hrel
   by_cases hlt:k < len
   · obtain ⟨f,hf⟩:∃ f,l[k]?=some f:=⟨_,List.getElem?_eq_getElem (by rw [HN.out];exact hlt)⟩
     obtain ⟨g,hg⟩:∃ g,m[k]?=some g:=⟨_,List.getElem?_eq_getElem (by rw [HN'.out];exact hlt)⟩
     obtain ⟨rfl,hb0⟩:=HR.out.at0 (by rw [HN.out];omega)
     obtain ⟨rfl,hb0'⟩:=HR'.out.at0 (by rw [HN'.out];omega)
     obtain ⟨ou,cu,bu,qu,hu,ht⟩:=HR.out.ids k f hf
     obtain ⟨ou',cu',bu',qu',hu',ht'⟩:=HR'.out.ids k g hg
     obtain ⟨c0,c1,c2,c3,c4,c5,c6,c7,c8⟩:=zb6 (w:=wr) (fun j z hz=>(HS.out.bel.cell (p:=⟨b0,o + k * 9 + j,none⟩) hb0).trans (HR.out.cell k f hf j z hz))
     obtain ⟨d0,d1,d2,d3,d4,d5,d6,d7,d8⟩:=zb6 (w:=wr) (fun j z hz=>(HS.out.bel.cell (p:=⟨b0',o' + k * 9 + j,none⟩) hb0').trans (HR'.out.cell k g hg j z hz))
     rw [hu] at c0
     rw [hu'] at d0
     have HF:=y11h hf
     have HG:=y11h hg
     have HU:=y11h hu
     have HU':=y11h hu'
     have HT:=y11h ht
     have HT':=y11h ht'
     have hcu:=ht.len
     have hmu:=ht.max
     have hcu':=ht'.len
     have hmu':=ht'.max
     unfold maxLen at hmu hmu'
     clear hf hg hu hu' ht ht'
     generalize hnf:f.ids.length=nf at *
     have HNF:=y11h hnf
     generalize hng:g.ids.length=ng at *
     have HNG:=y11h hng
     clear hnf hng
     have LA:=fun dd os q=>HS.out.o1.regrown dd os q
     have LB:=fun dd os q=>HS.out.o2.regrown dd os q
     have r0:=fun dd os=>cell_regrown c0 dd os
     have s0:=fun dd os=>cell_regrown d0 dd os
     have r1:=fun dd os=>cell_regrown c1 dd os
     have s1:=fun dd os=>cell_regrown d1 dd os
     have r2:=fun dd os=>cell_regrown c2 dd os
     have s2:=fun dd os=>cell_regrown d2 dd os
     have r3:=fun dd os=>cell_regrown c3 dd os
     have s3:=fun dd os=>cell_regrown d3 dd os
     have r4:=fun dd os=>cell_regrown c4 dd os
     have s4:=fun dd os=>cell_regrown d4 dd os
     have r5:=fun dd os=>cell_regrown c5 dd os
     have s5:=fun dd os=>cell_regrown d5 dd os
     have r6:=fun dd os=>cell_regrown c6 dd os
     have s6:=fun dd os=>cell_regrown d6 dd os
     have r7:=fun dd os=>cell_regrown c7 dd os
     have s7:=fun dd os=>cell_regrown d7 dd os
     have r8:=fun dd os=>cell_regrown c8 dd os
     have s8:=fun dd os=>cell_regrown d8 dd os
     clear c0 c1 c2 c3 c4 c5 c6 c7 c8 d0 d1 d2 d3 d4 d5 d6 d7 d8
     have l1:=HS.out.o1.cell
     have l2:=HS.out.o2.cell
     have z1:=HS.out.o1.lt
     have z2:=HS.out.o2.lt
     have k0:(0:Int)≤(k:Int):=by omega
     have k1:(k:Int) < (len:Int):=by omega
     have hq:=fun w'=>show (Op.equalIn 10000 35 (.agg #[.int .i64 (f.v 0),.int .i64 (f.v 1),.int .i64 (f.v 2),.int .i64 (f.v 3),.int .i64 (f.v 4),.int .i64 (f.v 5),.int .i64 (f.v 6),.int .i64 (f.v 7)]) (.agg #[.int .i64 (g.v 0),.int .i64 (g.v 1),.int .i64 (g.v 2),.int .i64 (g.v 3),.int .i64 (g.v 4),.int .i64 (g.v 5),.int .i64 (g.v 6),.int .i64 (g.v 7)])).run Tryz.prog w'=.ok (eqV f.v g.v) w' from zgf f.v g.v w'
     cases hqq:eqV f.v g.v
     · rw [hqq] at hq
       have E:=y11h (show res=false by rw [HE2.out];exact zjs (by rw [HN.out,HN'.out]) HF.out HG.out (by unfold eqFr;rw [hqq];rfl))
       clear hqq
       go_wp2_with fail
       refine wp_region_quiet_below (by kernel_rfl) (by kernel_rfl) ?_
       repeat (first | go_big_quiet_step (fail) | quiet_step (fail))
       refine wpQuiet_nil ?_
       intro w7 hw'
       have hb':=y11h (zag hw')
       clear hw'
       clear r0 s0 r1 s1 r2 s2 r3 s3 r4 s4 r5 s5 r6 s6 r7 s7 r8 s8 LA LB hq l1 l2
       go_wp2_with fail
       go_ret
       exact ⟨zac E.out.symm,HS.out.bel.trans (hb'.out.mono HS.out.bel.size)⟩
     rw [hqq] at hq
     by_cases hne:nf=ng
     case neg =>
       have E:=y11h (show res=false by rw [HE2.out];exact zjs (by rw [HN.out,HN'.out]) HF.out HG.out (by unfold eqFr;rw [zmb (by rw [HNF.out,HNG.out];exact hne)];simp))
       have hne1:((nf:Int) == (ng:Int))=false:=by simp;omega
       have hne2:((nf:Int) != (ng:Int))=true:=by simp;omega
       clear hqq
       go_wp2_with fail
       refine wp_region_quiet_below (by kernel_rfl) (by kernel_rfl) ?_
       repeat (first | go_big_quiet_step (fail) | quiet_step (fail))
       refine wpQuiet_nil ?_
       intro w7 hw'
       have hb':=y11h (zag hw')
       clear hw'
       clear r0 s0 r1 s1 r2 s2 r3 s3 r4 s4 r5 s5 r6 s6 r7 s7 r8 s8 LA LB hq l1 l2
       go_wp2_with fail
       go_ret
       exact ⟨zac E.out.symm,HS.out.bel.trans (hb'.out.mono HS.out.bel.size)⟩
     subst hne
     have HQ:=y11h hqq
     clear hqq
     go_wp2_with fail
     refine wp_region_quiet_below (by kernel_rfl) (by kernel_rfl) ?_
     repeat (first | go_big_quiet_step (fail) | quiet_step (fail))
     refine wpQuiet_nil ?_
     intro w7 hw'
     have hb':=y11h (zag hw')
     clear hw'
     clear r0 s0 r1 s1 r2 s2 r3 s3 r4 s4 r5 s5 r6 s6 r7 s7 r8 s8 LA LB hq l1 l2 z1 z2
     have HS7:=y11h (HS.out.later hb'.out)
     clear hb' HS
     go_wp2_with fail
     go_loopw [6] (fun iv wr=>zzj f.ids g.ids nf (knA A (.slice (some ⟨b0,o,none⟩) len cap)) (knA B (.slice (some ⟨b0',o',none⟩) len cap')) w iv wr) (fun iv _=>nf - (intOf iv).toNat)
     case atStart=>exact ⟨0,Nat.zero_le _,rfl,fun j a b hj=>absurd hj (by omega),HS7⟩
     case round =>
       clear HS7
       obtain ⟨j,hj,rfl,HB,HS⟩:=hrel
       have l1:=HS.out.o1.cell
       have l2:=HS.out.o2.cell
       have z1:=HS.out.o1.lt
       have z2:=HS.out.o2.lt
       obtain ⟨c0,_⟩:=zb6 (w:=wr) (fun j z hz=>(HS.out.bel.cell (p:=⟨b0,o + k * 9 + j,none⟩) hb0).trans (HR.out.cell k f HF.out j z hz))
       obtain ⟨d0,_⟩:=zb6 (w:=wr) (fun j z hz=>(HS.out.bel.cell (p:=⟨b0',o' + k * 9 + j,none⟩) hb0').trans (HR'.out.cell k g HG.out j z hz))
       rw [HU.out] at c0
       rw [HU'.out] at d0
       by_cases hjt:j < nf
       · obtain ⟨x,hx⟩:∃ x,f.ids[j]?=some x:=⟨_,List.getElem?_eq_getElem (by rw [HNF.out];exact hjt)⟩
         obtain ⟨y,hy⟩:∃ y,g.ids[j]?=some y:=⟨_,List.getElem?_eq_getElem (by rw [HNG.out];exact hjt)⟩
         obtain ⟨rfl,hb1⟩:=HT.out.at0 (by rw [HNF.out];omega)
         obtain ⟨rfl,hb1'⟩:=HT'.out.at0 (by rw [HNG.out];omega)
         have x0:=(HS.out.bel.cell (p:=⟨bu,qu + j,none⟩) hb1).trans (HT.out.cell j x hx)
         have y0:=(HS.out.bel.cell (p:=⟨bu',qu' + j,none⟩) hb1').trans (HT'.out.cell j y hy)
         have r0:=fun dd os=>cell_regrown c0 dd os
         have s0:=fun dd os=>cell_regrown d0 dd os
         have rx:=fun dd os=>cell_regrown x0 dd os
         have ry:=fun dd os=>cell_regrown y0 dd os
         have LA:=fun dd os q=>HS.out.o1.regrown dd os q
         have LB:=fun dd os q=>HS.out.o2.regrown dd os q
         have j0:(0:Int)≤(j:Int):=by omega
         have j1:(j:Int) < (nf:Int):=by omega
         have HX:=y11h hx
         have HY:=y11h hy
         clear hx hy x0 y0
         cases ht:(x.toList == y.toList)
         · have E:=y11h (show res=false by rw [HE2.out];exact zjs (by rw [HN.out,HN'.out]) HF.out HG.out (by unfold eqFr;rw [zvs (by rw [HNF.out,HNG.out]) HX.out HY.out ht];simp))
           go_wp2_with fail
           refine wp_region_quiet_below (by kernel_rfl) (by kernel_rfl) ?_
           repeat (first | go_big_quiet_step (fail) | quiet_step (fail))
           refine wpQuiet_nil ?_
           intro w7 hw'
           have hb':=y11h (zag hw')
           clear hw'
           clear r0 s0 rx ry LA LB l1 l2
           go_wp2_with fail
           go_ret
           exact ⟨zac E.out.symm,HS.out.bel.trans (hb'.out.mono HS.out.bel.size)⟩
         · have HB2:=y11h (show ∀ q a b,q < j + 1→f.ids[q]?=some a→g.ids[q]?=some b→(a.toList == b.toList)=true from fun q a b hq ha hb=>by
             by_cases e:q=j
             · subst e;rw [HX.out] at ha;rw [HY.out] at hb;cases ha;cases hb;exact ht
             · exact HB.out q a b (by omega) ha hb)
           go_wp2_with fail
           refine wp_region_quiet_below (by kernel_rfl) (by kernel_rfl) ?_
           repeat (first | go_big_quiet_step (fail) | quiet_step (fail))
           refine wpQuiet_nil ?_
           intro w7 hw'
           have hb':=y11h (zag hw')
           clear hw'
           clear r0 s0 rx ry LA LB l1 l2
           have HS7:=y11h (HS.out.later hb'.out)
           go_wp2_with fail
           go_roundw
           case rel=>exact ⟨j + 1,by omega,by go_num,HB2,HS7⟩
           case measure=>simp [intOf];omega
       · have e:nf=j:=by omega
         subst e
         have HA2:=y11h (show ∀ q a b,q < k + 1→l[q]?=some a→m[q]?=some b→eqFr a b=true from fun q a b hq ha hb=>by
           by_cases e:q=k
           · subst e
             rw [HF.out] at ha;rw [HG.out] at hb;cases ha;cases hb
             unfold eqFr
             rw [HQ.out,(zh4 (by rw [HNF.out,HNG.out])).2 fun j x y hx hy=>HB.out j x y (by have:=posA hx;rw [HNF.out] at this;exact this) hx hy];rfl
           · exact HA.out q a b (by omega) ha hb)
         go_wp2_with fail
         go_roundw
         case rel=>exact ⟨k + 1,by omega,by go_num,HA2,HS⟩
         case measure=>simp [intOf];omega
   · have e:len=k:=by omega
     subst e
     have E:=y11h (show res=true by
       rw [HE2.out]
       exact (zh3 (by rw [HN.out,HN'.out])).2 fun j x y hx hy=>HA.out j x y (by have:=posA hx;rw [HN.out] at this;exact this) hx hy)
     have l1:=HS.out.o1.cell
     have l2:=HS.out.o2.cell
     have z1:=HS.out.o1.lt
     have z2:=HS.out.o2.lt
     go_wp2_with fail
     go_ret
     exact ⟨zac E.out.symm,HS.out.bel⟩
def pc (p:Pr) (v:Value):List Value:=[.int .i64 p.op,.string p.text,.int .i64 p.n,.complex .f64 p.x p.y,v]
def tc (p:Pr) (v:Value):List Value:=[.int .i64 p.op,.string p.text,.int .i64 p.n,.float .f64 p.x,.float .f64 p.y,v]
inductive Lies (sz:Nat) (c:Pr→Value→List Value) (S:Nat→Prop) (w:World):Pr→Value→Prop where
 | mk (op:Int) (t:ByteArray) (n:Int) (x y:Nat) (kids:List Pr) (oa:Option Addr) (cap b o:Nat) (V:Nat→Value) (ht:t.size≤maxLen) (hl:kids.length≤cap) (hc:cap≤maxLen)
     (hn:0 < kids.length→oa=some ⟨b,o,none⟩∧S b)
     (hcell:∀ i p,kids[i]?=some p→∀ j u,(c p (V i))[j]?=some u→w.cell? ⟨b,o + i * sz + j,none⟩=some u)
     (hrec:∀ i p,kids[i]?=some p→Lies sz c S w p (V i)):Lies sz c S w (.node op t n x y kids) (.slice oa kids.length cap)
theorem zc7 {l:List Pr} {i:Nat} {p:Pr} (h:l[i]?=some p):i < l.length:=(List.getElem?_eq_some_iff.1 h).1
theorem Lies.mono {sz:Nat} {c:Pr→Value→List Value} {S S':Nat→Prop} {w w':World} {p:Pr} {v:Value} (h:Lies sz c S w p v)
   (hw:∀ b o,S b→w'.cell? ⟨b,o,none⟩=w.cell? ⟨b,o,none⟩) (hS:∀ b,S b→S' b):Lies sz c S' w' p v:=by
 induction h with
 | mk op t n x y kids oa cap b o V ht hl hc hn hcell hrec ih =>
   refine .mk op t n x y kids oa cap b o V ht hl hc (fun h=>⟨(hn h).1,hS _ (hn h).2⟩) (fun i p hp j u hu=>?_) fun i p hp=>ih i p hp
   rw [hw _ _ (hn (by have:=zc7 hp;omega)).2]
   exact hcell i p hp j u hu
abbrev LP (w:World) (p:Pr) (v:Value):Prop:=Lies 5 pc (fun b=>b < w.heap.size) w p v
abbrev LT (w:World) (p:Pr) (v:Value):Prop:=Lies 6 tc (fun b=>b < w.heap.size) w p v
theorem Lies.later {sz:Nat} {c:Pr→Value→List Value} {w w':World} {p:Pr} {v:Value} {B:Nat} (h:Lies sz c (fun b=>b < w.heap.size) w p v) (hb:Below B w w') (hB:w.heap.size≤B):Lies sz c (fun b=>b < w'.heap.size) w' p v :=
 h.mono (fun b o hS=>hb.cell (p:=⟨b,o,none⟩) (Nat.lt_of_lt_of_le hS hB)) fun _ hS=>Nat.lt_of_lt_of_le hS hb.size
theorem Lies.atDrew {sz:Nat} {c:Pr→Value→List Value} {w:World} {p:Pr} {v:Value} (h:Lies sz c (fun b=>b < w.heap.size) w p v):Lies sz c (fun b=>b < w.drew.heap.size) w.drew p v:=h.later (Below.refl _ _).drew (Nat.le_refl _)
theorem Lies.atAlloc {sz:Nat} {c:Pr→Value→List Value} {w:World} {p:Pr} {v:Value} (h:Lies sz c (fun b=>b < w.heap.size) w p v) (ob:Obj):Lies sz c (fun b=>b < (w.alloc ob).heap.size) (w.alloc ob) p v :=
 h.later ((Below.refl _ _).alloc (Nat.le_refl _) _) (Nat.le_refl _)
theorem zba {sz:Nat} {c:Pr→Value→List Value} {S:Nat→Prop} {w:World} {p:Pr} {v:Value} (h:Lies sz c S w p v) :
   ∃ (oa:Option Addr) (cap b o:Nat) (V:Nat→Value),v=.slice oa p.kids.length cap∧p.text.size≤maxLen∧p.kids.length≤cap∧cap≤maxLen∧(0 < p.kids.length→oa=some ⟨b,o,none⟩∧S b) ∧
     (∀ i q,p.kids[i]?=some q→∀ j u,(c q (V i))[j]?=some u→w.cell? ⟨b,o + i * sz + j,none⟩=some u)∧(∀ i q,p.kids[i]?=some q→Lies sz c S w q (V i)):=by
 cases h with
 | mk op t n x y kids oa cap b o V ht hl hc hn hcell hrec=>exact ⟨oa,cap,b,o,V,rfl,ht,hl,hc,hn,hcell,hrec⟩
theorem zgy {sz:Nat} {c:Pr→Value→List Value} {S:Nat→Prop} {w:World} {op:Int} {t:ByteArray} {n:Int} {x y:Nat} (ht:t.size≤maxLen):Lies sz c S w (.node op t n x y []) (.slice none 0 0) :=
 .mk op t n x y [] none 0 0 0 (fun _=>.nilFunc) ht (Nat.le_refl _) (Nat.zero_le _) (fun h=>absurd h (Nat.lt_irrefl _)) (fun i p h=>by simp at h) (fun i p h=>by simp at h)
theorem zas {sz:Nat} {c:Pr→Value→List Value} {S:Nat→Prop} {w:World} {p:Pr} {v:Value} (h:Lies sz c S w p v):v.oneCell'=true:=by
 obtain ⟨_,_,_,_,_,rfl,_⟩:=zba h;rfl
theorem zuk {q:Pr} {v:Value} (h:v.oneCell'=true):∀ u∈pc q v,u.oneCell'=true:=by
 intro u hu
 simp only [pc,List.mem_cons,List.not_mem_nil,or_false] at hu
 rcases hu with rfl | rfl | rfl | rfl | rfl
 · rfl
 · rfl
 · rfl
 · rfl
 · exact h
theorem zce {w:World} {q:Pr} {v:Value} {b o:Nat} (h:∀ j u,(pc q v)[j]?=some u→w.cell? ⟨b,o + j,none⟩=some u) :
   w.cell? ⟨b,o,none⟩=some (.int .i64 q.op)∧w.cell? ⟨b,o + 1,none⟩=some (.string q.text)∧w.cell? ⟨b,o + 2,none⟩=some (.int .i64 q.n)∧w.cell? ⟨b,o + 3,none⟩=some (.complex .f64 q.x q.y)∧w.cell? ⟨b,o + 4,none⟩=some v :=
 ⟨h 0 _ rfl,h 1 _ rfl,h 2 _ rfl,h 3 _ rfl,h 4 _ rfl⟩
theorem zpg {w:World} {q:Pr} {v:Value} {b o:Nat} (h:∀ j u,(tc q v)[j]?=some u→w.cell? ⟨b,o + j,none⟩=some u) :
   w.cell? ⟨b,o,none⟩=some (.int .i64 q.op)∧w.cell? ⟨b,o + 1,none⟩=some (.string q.text)∧w.cell? ⟨b,o + 2,none⟩=some (.int .i64 q.n)∧w.cell? ⟨b,o + 3,none⟩=some (.float .f64 q.x)∧w.cell? ⟨b,o + 4,none⟩=some (.float .f64 q.y)∧w.cell? ⟨b,o + 5,none⟩=some v :=
 ⟨h 0 _ rfl,h 1 _ rfl,h 2 _ rfl,h 3 _ rfl,h 4 _ rfl,h 5 _ rfl⟩
end Go.Proofs.YtodfhabkdaiopaaGreat
