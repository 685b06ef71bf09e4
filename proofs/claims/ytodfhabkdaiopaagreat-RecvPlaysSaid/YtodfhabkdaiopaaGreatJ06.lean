/- Joined: RefList2, RefList3, ItemB, KnowM. -/
import Derived.Test.YtodfhabkdaiopaaGreatJ05
import Derived.Test.YtodfhabkdaiopaaGreatJ04
import Derived.Test.YtodfhabkdaiopaaGreatJ01
namespace Go.Proofs.YtodfhabkdaiopaaGreat
set_option linter.unusedVariables false
set_option linter.unusedSimpArgs false
set_option maxRecDepth 100000
set_option maxHeartbeats 8000000
open Go.RowKit
theorem y06h {p:Prop} (h:p):Go.RowKit.Hid p:=Lib.hid h
def upB (a b:Itm):Bool:=!(Op.bytesLess b.id.toList a.id.toList || b.id.toList == a.id.toList)
def zgl:List Itm→Bool
 | a :: b :: l=>upB a b && zgl (b :: l)
 | _=>true
def zcl (f:Itm→Itm→Bool):List Itm→List Itm→Bool
 | [],[]=>true
 | a :: l,b :: m=>f a b && zcl f l m
 | _,_=>false
theorem zmw {f:Itm→Itm→Bool}:∀ {l m:List Itm},l.length ≠ m.length→zcl f l m=false
 | [],[],h=>absurd rfl h
 | [],_ :: _,_=>rfl
 | _ :: _,[],_=>rfl
 | a :: l,b :: m,h=>by
   simp only [zcl,Bool.and_eq_false_iff]
   exact .inr (zmw fun e=>h (by simp [e]))
theorem zil {f:Itm→Itm→Bool}:∀ {l m:List Itm},l.length=m.length→(zcl f l m=true ↔ ∀ (j:Nat) (a b:Itm),l[j]?=some a→m[j]?=some b→f a b=true)
 | [],[],_=>by simp [zcl]
 | [],_ :: _,h=>by simp at h
 | _ :: _,[],h=>by simp at h
 | a :: l,b :: m,h=>by
   simp only [zcl,Bool.and_eq_true]
   rw [zil (by simpa using h)]
   constructor
   · rintro ⟨h1,h2⟩ j x y hx hy
     cases j with
     | zero=>simp at hx hy;subst hx hy;exact h1
     | succ j=>exact h2 j x y (by simpa using hx) (by simpa using hy)
   · intro h
     exact ⟨h 0 a b rfl rfl,fun j x y hx hy=>h (j + 1) x y (by simpa using hx) (by simpa using hy)⟩
theorem zxe {f:Itm→Itm→Bool} {l m:List Itm} (hl:l.length=m.length) {j:Nat} {a b:Itm} (ha:l[j]?=some a) (hb:m[j]?=some b) (h:f a b=false):zcl f l m=false:=by
 cases e:zcl f l m with
 | false=>rfl
 | true=>rw [(zil hl).1 e j a b ha hb] at h;cases h
def zyb (f:Itm→Itm→Bool) (l m:List Itm) (len:Nat) (w:World) (iv:Value) (wr:World):Prop :=
 ∃ k:Nat,k≤len∧iv=.int .i64 k∧Hid (∀ j a b,j < k→l[j]?=some a→m[j]?=some b→f a b=true)∧Hid (Below w.heap.size w wr)
theorem zgm (f:Itm→Itm→Bool) (HF:∀ (a b:Itm) (w:World),Calls Tryz.prog 154 #[iV a,iV b] w fun e w'=>e=.returned (.bool (f a b))∧Below w.heap.size w w')
   (l m:List Itm) (v v':Value) (w:World) (hR:Row 8 ic w l v) (hM:Row 8 ic w m v') :
   Calls Tryz.prog 83 #[v,v'] w fun e w'=>e=.returned (.bool (zcl f l m))∧Below w.heap.size w w':=by
 obtain ⟨oa,cap,b,o,rfl,hr⟩:=hR
 obtain ⟨oa',cap',b',o',rfl,hr'⟩:=hM
 have HR:=y06h hr
 have HR':=y06h hr'
 have hcap:=hr.len
 have hmax:=hr.max
 have hcap':=hr'.len
 have hmax':=hr'.max
 unfold maxLen at hmax hmax'
 clear hr hr'
 generalize hres:zcl f l m=res at *
 have HRES:=y06h hres
 clear hres
 generalize hn:l.length=len at *
 have HN:=y06h hn
 generalize hn':m.length=len' at *
 have HN':=y06h hn'
 clear hn hn'
 by_cases hne:len=len'
 case neg =>
   have E:=y06h (show res=false by rw [← HRES.out];exact zmw (by rw [HN.out,HN'.out];exact hne))
   go_enter Tryz.func83,Tryz.ntmps83
   go_wp2_with fail
   go_ret
   exact ⟨zac E.out.symm,Below.refl _ _⟩
 subst hne
 go_enter Tryz.func83,Tryz.ntmps83
 go_wp2_with fail
 go_loopw [5] (fun iv wr=>zyb f l m len w iv wr) (fun iv _=>len - (intOf iv).toNat)
 case atStart=>exact ⟨0,Nat.zero_le _,rfl,fun j a b hj=>absurd hj (by omega),Below.refl _ _⟩
 case round =>
   obtain ⟨k,hk,rfl,HS,HB⟩:=hrel
   by_cases hlt:k < len
   · obtain ⟨i,hi9⟩:∃ i,l[k]?=some i:=⟨_,List.getElem?_eq_getElem (by rw [HN.out];omega)⟩
     obtain ⟨y,hy9⟩:∃ y,m[k]?=some y:=⟨_,List.getElem?_eq_getElem (by rw [HN'.out];omega)⟩
     obtain ⟨rfl,hb0⟩:=HR.out.at0 (by rw [HN.out];omega)
     obtain ⟨rfl,hb0'⟩:=HR'.out.at0 (by rw [HN'.out];omega)
     obtain ⟨c0,c1,c2,c3,c4,c5,c6,c7⟩:=zbe (w:=wr) (fun j u hu=>(HB.out.cell (p:=⟨b,o + k * 8 + j,none⟩) hb0).trans (HR.out.cell k i hi9 j u hu))
     obtain ⟨d0,d1,d2,d3,d4,d5,d6,d7⟩:=zbe (w:=wr) (fun j u hu=>(HB.out.cell (p:=⟨b',o' + k * 8 + j,none⟩) hb0').trans (HR'.out.cell k y hy9 j u hu))
     have r0:=fun dd os=>cell_regrown c0 dd os
     have r1:=fun dd os=>cell_regrown c1 dd os
     have r2:=fun dd os=>cell_regrown c2 dd os
     have r3:=fun dd os=>cell_regrown c3 dd os
     have r4:=fun dd os=>cell_regrown c4 dd os
     have r5:=fun dd os=>cell_regrown c5 dd os
     have r6:=fun dd os=>cell_regrown c6 dd os
     have r7:=fun dd os=>cell_regrown c7 dd os
     have s0:=fun dd os=>cell_regrown d0 dd os
     have s1:=fun dd os=>cell_regrown d1 dd os
     have s2:=fun dd os=>cell_regrown d2 dd os
     have s3:=fun dd os=>cell_regrown d3 dd os
     have s4:=fun dd os=>cell_regrown d4 dd os
     have s5:=fun dd os=>cell_regrown d5 dd os
     have s6:=fun dd os=>cell_regrown d6 dd os
     have s7:=fun dd os=>cell_regrown d7 dd os
     have m1:=fun dd os=>y06h (Calls.regrown_of (HF i y (Sort.grow (redrawn wr dd) os)))
     have k0:(0:Int)≤(k:Int):=by omega
     have k1:(k:Int) < (len:Int):=by omega
     have HI:=y06h hi9
     have HY:=y06h hy9
     clear hi9 hy9 c0 d0 c1 d1 c2 d2 c3 d3 c4 d4 c5 d5 c6 d6 c7 d7
     cases ht:f i y
     · have E:=y06h (show res=false by rw [← HRES.out];exact zxe (by rw [HN.out,HN'.out]) HI.out HY.out ht)
       rw [ht] at m1
       clear ht
       go_wp2_with fail
       refine wp_region_quiet_below (by kernel_rfl) (by kernel_rfl) ?_
       repeat (first | go_big_quiet_step ((with_reducible exact (m1 _ _).out)) | quiet_step ((with_reducible exact (m1 _ _).out)))
       refine wpQuiet_nil ?_
       intro w7 hw'
       have hb':=y06h (zag hw')
       clear hw'
       clear m1
       go_wp2_with fail
       go_ret
       exact ⟨zac E.out.symm,HB.out.trans (hb'.out.mono HB.out.size)⟩
     · have HS2:=y06h (show ∀ j a b,j < k + 1→l[j]?=some a→m[j]?=some b→f a b=true from fun j a b hj ha hb=>by
         by_cases e:j=k
         · subst e;rw [HI.out] at ha;rw [HY.out] at hb;cases ha;cases hb;exact ht
         · exact HS.out j a b (by omega) ha hb)
       rw [ht] at m1
       clear ht
       go_wp2_with fail
       refine wp_region_quiet_below (by kernel_rfl) (by kernel_rfl) ?_
       repeat (first | go_big_quiet_step ((with_reducible exact (m1 _ _).out)) | quiet_step ((with_reducible exact (m1 _ _).out)))
       refine wpQuiet_nil ?_
       intro w7 hw'
       have hb':=y06h (zag hw')
       clear hw'
       clear m1 r0 s0 r1 s1 r2 s2 r3 s3 r4 s4 r5 s5 r6 s6 r7 s7
       go_wp2_with fail
       go_roundw
       case rel=>exact ⟨k + 1,by omega,by go_num,HS2.out,y06h (HB.out.trans (hb'.out.mono HB.out.size))⟩
       case measure=>simp [intOf];omega
   · have E:=y06h (show res=true by
       rw [← HRES.out,zil (by rw [HN.out,HN'.out])]
       exact fun j a b ha hb=>HS.out j a b (by have:=zbo ha;rw [HN.out] at this;omega) ha hb)
     go_wp2_with fail
     go_ret
     exact ⟨zac E.out.symm,HB.out⟩
def zcm (f:Itm→Itm→Bool) (out:List Itm) (y:Itm):List Itm:=if (!(getI out y.id).2 || f y (getI out y.id).1)=true then putI out y else out
def zar (f:Itm→Itm→Bool) (a b:List Itm):List Itm:=b.foldl (zcm f) a
theorem zs3 {f:Itm→Itm→Bool} {a b:List Itm} {k:Nat} {y:Itm} (h:b[k]?=some y):zar f a (b.take (k + 1))=zcm f (zar f a (b.take k)) y:=by
 unfold zar;rw [zfg h,List.foldl_append];rfl
theorem zc1 (l:List Itm) (x:Itm):(putI l x).length≤l.length + 1:=by
 unfold putI
 simp only [List.length_append,List.length_cons,List.length_nil]
 have:(l.filter fun i=>lsB i.id x.id).length + (l.filter fun i=>gtB i.id x.id).length≤l.length:=by
   induction l with
   | nil=>simp
   | cons a l ih =>
     simp only [List.filter_cons]
     cases h1:lsB a.id x.id
     · cases gtB a.id x.id <;> simp <;> omega
     · have h2:gtB a.id x.id=false:=by
         unfold gtB
         unfold lsB at h1
         rw [h1];rfl
       rw [h2]
       simp
       omega
 omega
theorem zed {l:List Itm} {x i:Itm} (h:i∈putI l x):i∈l ∨ i=x:=by
 unfold putI at h
 simp only [List.mem_append,List.mem_filter,List.mem_cons,List.not_mem_nil,or_false] at h
 rcases h with (h | h) | h
 · exact .inl h.1
 · exact .inr h
 · exact .inl h.1
theorem zxi (f:Itm→Itm→Bool) (l:List Itm) (y:Itm):(zcm f l y).length≤l.length + 1:=by
 unfold zcm;split
 · exact zc1 l y
 · omega
theorem zxj {f:Itm→Itm→Bool} {l:List Itm} {y i:Itm} (h:i∈zcm f l y):i∈l ∨ i=y:=by
 unfold zcm at h;split at h
 · exact zed h
 · exact .inl h
def zx4 (F:Nat→List Itm) (len n0:Nat) (w:World) (lv iv:Value) (wr:World):Prop :=
 ∃ (k:Nat) (sv:Value),k≤len∧iv=.int .i64 k∧sv=lv∧Hid (Row 8 ic wr (F k) sv)∧Hid ((F k).length≤n0 + k)∧Hid (Below w.heap.size w wr)
theorem zik {P:Program} (w:World) (a:Addr):(storeCells a ([]:List Value)).run P w=.ok () w:=by simp [storeCells]
attribute [local go_sem] zik
theorem zkg (f:Itm→Itm→Bool) (HF:∀ (a b:Itm) (w:World),Calls Tryz.prog 69 #[iV a,iV b] w fun e w'=>e=.returned (.bool (f a b))∧Below w.heap.size w w')
   (l m:List Itm) (v v':Value) (w:World) (hR:Row 8 ic w l v) (hM:Row 8 ic w m v') (h1:l.length≤1000) (h2:m.length≤1000) :
   Calls Tryz.prog 39 #[v,v'] w fun e w'=>∃ v2,e=.returned v2∧Row 8 ic w' (zar f l m) v2∧Below w.heap.size w w':=by
 obtain ⟨oa,cap,b,o,rfl,hr⟩:=hR
 obtain ⟨oa',cap',b',o',rfl,hr'⟩:=hM
 obtain ⟨i0,hi,hz0,hz1,hz2⟩:=info_parts zct
 have HR:=y06h hr
 have HR':=y06h hr'
 have hcap:=hr.len
 have hmax:=hr.max
 have hcap':=hr'.len
 have hmax':=hr'.max
 unfold maxLen at hmax hmax'
 clear hr hr'
 generalize hn:l.length=len at *
 have HN:=y06h hn
 generalize hn':m.length=len' at *
 have HN':=y06h hn'
 clear hn hn'
 go_enter Tryz.func39,Tryz.ntmps39
 go_upto_region 1 with fail
 go_cut [5] (fun s5 wx=>Hid (Row 8 ic wx l s5∧Below w.heap.size w wx))
 case first =>
   have B1:=y06h ((Below.refl w.heap.size w).alloc (Nat.le_refl _) (.cells #[] 58))
   by_cases hz:len=0
   · subst hz
     have hl0:l=[]:=List.length_eq_zero_iff.1 HN.out
     have HZ:=y06h (show Row 8 ic (w.alloc (.cells #[] 58)) l (.slice (some ⟨w.heap.size,0,none⟩) 0 0) by
       subst hl0
       exact ⟨_,0,w.heap.size,0,rfl,Nat.le_refl _,by decide,fun h=>absurd h (by simp),fun k i h=>by simp at h,fun i h=>by simp at h⟩)
     clear hl0
     cases oa
     all_goals
       go_wp2_with fail
       go_meet
       exact ⟨HZ.out,B1.out⟩
   · obtain ⟨rfl,hb0⟩:=HR.out.at0 (by rw [HN.out];omega)
     have O1:OwnI (w.alloc (.cells #[] 58)) w.heap.size [] (.slice (some ⟨w.heap.size,0,none⟩) 0 0) :=
       ⟨rfl,.inr ⟨w.heap.size,0,#[],rfl,Nat.le_refl _,heap_alloc_new w _,Nat.le_refl _,by decide,rfl,rfl⟩⟩
     have HO1:=y06h O1
     have hown:(w.alloc (.cells #[] 58)).ownsRow w.heap.size 58 8 (.slice (some ⟨w.heap.size,0,none⟩) 0 0) 0 []:=O1
     clear O1
     have hcl:=ze8 l
     rw [HN.out] at hcl
     have HL:=y06h hcl
     clear hcl
     have hone:∀ u∈zay l,u.oneCell'=true:=by
       intro u hu
       unfold zay at hu
       rw [List.mem_flatMap] at hu
       obtain ⟨i,_,hu⟩:=hu
       exact zea i u hu
     have HONE:=y06h hone
     clear hone
     go_wp2_with (at_builtin;refine wpList_append_lies _ (by rfl) _ _ _ (by rfl) w.heap.size 58 i0 _ 8 88 Tryz.underlying33 hi hz0 hz1 hz2 rfl (by omega) (.slice (some ⟨w.heap.size,0,none⟩) 0 0) 0 [] (by rfl) hown ⟨b,o,none⟩ len cap (zay l) (by rfl) HL.out (zij (HR.out.later ((Below.refl _ _).alloc (Nat.le_refl _) _)) HN.out) HONE.out (by omega) (by unfold maxLen;omega) (by omega) (by simp) (w.heap.size + 1) (by simp) ?_;intro g cap2 w3 hown3 hgrow hat hlt3)
     have R1:=y06h (show OwnI w3 w.heap.size l (.slice (some ⟨g,0,none⟩) len cap2) by
       unfold OwnI
       rw [HN.out]
       simpa using hown3)
     have R2:=y06h (zbh HO1.out B1.out (Nat.le_refl _) hgrow B1.out.size)
     clear hown hown3 hgrow hat
     go_meet
     exact ⟨R1.out.row HR.out.ok,R2.out⟩
 case rest =>
   obtain ⟨hrow,hbel⟩:=hcut.out
   have HROW:=y06h hrow
   have HBEL:=y06h hbel
   clear hcut hrow hbel
   go_wp2_with fail
   go_loopw [5,6] (fun lv iv wr=>zx4 (fun k=>zar f l (m.take k)) len' len w lv iv wr) (fun _ iv _=>len' - (intOf iv).toNat)
   case atStart=>exact ⟨0,_,Nat.zero_le _,rfl,rfl,by unfold Hid;exact HROW.out,by unfold Hid;show l.length≤_;rw [HN.out];omega,HBEL⟩
   case round =>
     obtain ⟨k,sv,hk,rfl,rfl,HO,HLEN,HB⟩:=hrel
     replace HO:=y06h (show Row 8 ic wr (zar f l (m.take k)) sv from HO.out)
     replace HLEN:=y06h (show (zar f l (m.take k)).length≤len + k from HLEN.out)
     by_cases hlt:k < len'
     · obtain ⟨y,hy9⟩:∃ y,m[k]?=some y:=⟨_,List.getElem?_eq_getElem (by rw [HN'.out];omega)⟩
       obtain ⟨rfl,hb0'⟩:=HR'.out.at0 (by rw [HN'.out];omega)
       have hs:=zs3 (f:=f) (a:=l) hy9
       generalize zar f l (m.take k)=out at *
       have HS:=y06h hs
       have HY:=y06h hy9
       obtain ⟨oo,co,bo,ofo,rfl,hro⟩:=HO.out
       have HRO:=y06h hro
       have GT:=y06h (zeh out y.id (.slice oo out.length co) wr ⟨oo,co,bo,ofo,rfl,hro⟩)
       have hol:=HLEN.out
       have hoc:=hro.len
       have hom:=hro.max
       unfold maxLen at hom
       generalize hgg:getI out y.id=g at *
       have HG:=y06h hgg
       have d0:=(zbe (w:=wr) (fun j u hu=>(HB.out.cell (p:=⟨b',o' + k * 8 + j,none⟩) hb0').trans (HR'.out.cell k y hy9 j u hu))).1
       have zb:=Nat.lt_of_lt_of_le hb0' HB.out.size
       clear hs hy9 hro hgg
       go_wp2_with fail
       refine GT.out.mono ?_
       rintro e w2 ⟨rfl,hb2⟩
       have HB2:=y06h (HB.out.trans (hb2.mono HB.out.size))
       have HRO2:=y06h (HRO.out.later hb2)
       clear hb2 d0
       go_wp2_with fail
       have OH:=y06h (Own.new w2 #[.string g.1.id,.int .i64 g.1.r,.int .i64 g.1.c,.int .i64 g.1.st,.string g.1.kd,.int .i64 g.1.num,.complex .f64 g.1.x g.1.y,.bool g.1.d] 58)
       have HB3:=y06h (HB2.out.alloc HB2.out.size (.cells #[.string g.1.id,.int .i64 g.1.r,.int .i64 g.1.c,.int .i64 g.1.st,.string g.1.kd,.int .i64 g.1.num,.complex .f64 g.1.x g.1.y,.bool g.1.d] 58))
       have HRO3:=y06h (HRO2.out.later ((Below.refl _ _).alloc (Nat.le_refl _) (.cells #[.string g.1.id,.int .i64 g.1.r,.int .i64 g.1.c,.int .i64 g.1.st,.string g.1.kd,.int .i64 g.1.num,.complex .f64 g.1.x g.1.y,.bool g.1.d] 58)))
       generalize w2.heap.size=NH at *
       generalize w2.alloc (.cells #[.string g.1.id,.int .i64 g.1.r,.int .i64 g.1.c,.int .i64 g.1.st,.string g.1.kd,.int .i64 g.1.num,.complex .f64 g.1.x g.1.y,.bool g.1.d] 58)=w3 at *
       obtain ⟨d0,d1,d2,d3,d4,d5,d6,d7⟩:=zbe (w:=w3) (fun j u hu=>(HB3.out.cell (p:=⟨b',o' + k * 8 + j,none⟩) hb0').trans (HR'.out.cell k y HY.out j u hu))
       have r0:=fun dd os=>cell_regrown d0 dd os
       have r1:=fun dd os=>cell_regrown d1 dd os
       have r2:=fun dd os=>cell_regrown d2 dd os
       have r3:=fun dd os=>cell_regrown d3 dd os
       have r4:=fun dd os=>cell_regrown d4 dd os
       have r5:=fun dd os=>cell_regrown d5 dd os
       have r6:=fun dd os=>cell_regrown d6 dd os
       have r7:=fun dd os=>cell_regrown d7 dd os
       have LA:=fun dd os o=>OH.out.has.regrown dd os o
       have zb3:=Nat.lt_of_lt_of_le hb0' HB3.out.size
       have k0:(0:Int)≤(k:Int):=by omega
       have k1:(k:Int) < (len':Int):=by omega
       clear d0 d1 d2 d3 d4 d5 d6 d7
       have m1:=fun dd os=>y06h (Calls.regrown_of (HF y g.1 (Sort.grow (redrawn w3 dd) os)))
       have hsp:(!g.2 || f y g.1)=true→zar f l (m.take (k + 1))=putI out y:=fun h=>by rw [HS.out];unfold zcm;rw [HG.out,if_pos h]
       have hsk:(!g.2 || f y g.1)=false→zar f l (m.take (k + 1))=out:=fun h=>by rw [HS.out];unfold zcm;rw [HG.out,if_neg (by rw [h];simp)]
       have HSP:=y06h hsp
       have HSK:=y06h hsk
       clear hsp hsk
       generalize f y g.1=fy at *
       generalize hg2:g.2=g2 at *
       have hways:(g2=false) ∨ (g2=true∧fy=true) ∨ (g2=true∧fy=false):=by cases g2 <;> cases fy <;> simp
       rcases hways with rfl | ⟨rfl,rfl⟩ | ⟨rfl,rfl⟩
       · go_wp2_with fail
         refine wp_region_quiet_below (by kernel_rfl) (by kernel_rfl) ?_
         repeat (first | go_big_quiet_step ((with_reducible exact (m1 _ _).out)) | quiet_step ((with_reducible exact (m1 _ _).out)))
         refine wpQuiet_nil ?_
         intro w7 hw'
         have hb':=y06h (zag hw')
         clear hw'
         clear m1 LA r0 r1 r2 r3 r4 r5 r6 r7
         have HB7:=y06h (HB3.out.trans (hb'.out.mono HB3.out.size))
         have HRO7:=y06h (HRO3.out.later hb'.out)
         have hst:=HSP.out rfl
         have HST:=y06h hst
         clear hst
         obtain ⟨d0,d1,d2,d3,d4,d5,d6,d7⟩:=zbe (w:=w7) (fun j u hu=>(HB7.out.cell (p:=⟨b',o' + k * 8 + j,none⟩) hb0').trans (HR'.out.cell k y HY.out j u hu))
         have zb7:=Nat.lt_of_lt_of_le hb0' HB7.out.size
         have PT:=y06h (zei out y (.slice oo out.length co) w7 ⟨oo,co,bo,ofo,rfl,HRO7.out⟩ (by omega))
         go_wp2_with fail
         refine PT.out.mono ?_
         rintro e w8 ⟨v8,rfl,ho8,hb8⟩
         have HB8:=y06h (HB7.out.trans (hb8.mono HB7.out.size))
         have HR8:=y06h (ho8.row (fun i hi=>by
           rcases zed hi with h | h
           · exact HRO7.out.ok i h
           · rw [h];exact HR'.out.ok y (List.mem_of_getElem? HY.out)))
         clear ho8 hb8
         go_wp2_with fail
         go_roundw
         case rel=>exact ⟨k + 1,_,by omega,by go_num,rfl,y06h (by show Row 8 ic w8 (zar f l (m.take (k + 1))) v8;rw [HST.out];exact HR8.out),y06h (by show (zar f l (m.take (k + 1))).length≤_;rw [HST.out];have:=zc1 out y;omega),HB8⟩
         case measure=>simp [intOf];omega
       · go_wp2_with fail
         refine wp_region_quiet_below (by kernel_rfl) (by kernel_rfl) ?_
         repeat (first | go_big_quiet_step ((with_reducible exact (m1 _ _).out)) | quiet_step ((with_reducible exact (m1 _ _).out)))
         refine wpQuiet_nil ?_
         intro w7 hw'
         have hb':=y06h (zag hw')
         clear hw'
         clear m1 LA r0 r1 r2 r3 r4 r5 r6 r7
         have HB7:=y06h (HB3.out.trans (hb'.out.mono HB3.out.size))
         have HRO7:=y06h (HRO3.out.later hb'.out)
         have hst:=HSP.out rfl
         have HST:=y06h hst
         clear hst
         obtain ⟨d0,d1,d2,d3,d4,d5,d6,d7⟩:=zbe (w:=w7) (fun j u hu=>(HB7.out.cell (p:=⟨b',o' + k * 8 + j,none⟩) hb0').trans (HR'.out.cell k y HY.out j u hu))
         have zb7:=Nat.lt_of_lt_of_le hb0' HB7.out.size
         have PT:=y06h (zei out y (.slice oo out.length co) w7 ⟨oo,co,bo,ofo,rfl,HRO7.out⟩ (by omega))
         go_wp2_with fail
         refine PT.out.mono ?_
         rintro e w8 ⟨v8,rfl,ho8,hb8⟩
         have HB8:=y06h (HB7.out.trans (hb8.mono HB7.out.size))
         have HR8:=y06h (ho8.row (fun i hi=>by
           rcases zed hi with h | h
           · exact HRO7.out.ok i h
           · rw [h];exact HR'.out.ok y (List.mem_of_getElem? HY.out)))
         clear ho8 hb8
         go_wp2_with fail
         go_roundw
         case rel=>exact ⟨k + 1,_,by omega,by go_num,rfl,y06h (by show Row 8 ic w8 (zar f l (m.take (k + 1))) v8;rw [HST.out];exact HR8.out),y06h (by show (zar f l (m.take (k + 1))).length≤_;rw [HST.out];have:=zc1 out y;omega),HB8⟩
         case measure=>simp [intOf];omega
       · go_wp2_with fail
         refine wp_region_quiet_below (by kernel_rfl) (by kernel_rfl) ?_
         repeat (first | go_big_quiet_step ((with_reducible exact (m1 _ _).out)) | quiet_step ((with_reducible exact (m1 _ _).out)))
         refine wpQuiet_nil ?_
         intro w7 hw'
         have hb':=y06h (zag hw')
         clear hw'
         clear m1 LA r0 r1 r2 r3 r4 r5 r6 r7
         have HB7:=y06h (HB3.out.trans (hb'.out.mono HB3.out.size))
         have HRO7:=y06h (HRO3.out.later hb'.out)
         have hst:=HSK.out rfl
         have HST:=y06h hst
         clear hst
         go_wp2_with fail
         go_roundw
         case rel=>exact ⟨k + 1,_,by omega,by go_num,rfl,y06h (by show Row 8 ic w7 (zar f l (m.take (k + 1))) _;rw [HST.out];exact ⟨oo,co,bo,ofo,rfl,HRO7.out⟩),y06h (by show (zar f l (m.take (k + 1))).length≤_;rw [HST.out];omega),HB7⟩
         case measure=>simp [intOf];omega
     · have e:len'=k:=by omega
       subst e
       have h9:=HO.out
       rw [List.take_of_length_le (by rw [HN'.out];omega)] at h9
       have H9:=y06h h9
       clear h9
       go_wp2_with fail
       go_ret
       exact ⟨_,rfl,H9.out,HB.out⟩
end Go.Proofs.YtodfhabkdaiopaaGreat
namespace Go.Proofs.YtodfhabkdaiopaaGreat
set_option linter.unusedVariables false
set_option linter.unusedSimpArgs false
set_option maxRecDepth 100000
set_option maxHeartbeats 8000000
open Go.RowKit
theorem zht (s:ByteArray) (w:World) (hs:s.size≤maxLen) :
   Calls Tryz.prog 92 #[.string s] w fun e w'=>e=.returned (.bool (zbd s))∧w=w':=by
 have H:=y06h (zhn s 1 w hs)
 have e:zbd s=(txtB s && decide ((1:Int)≤s.size)):=by
   unfold zbd;rw [Bool.and_comm];congr 1;rw [decide_eq_decide];omega
 rw [e]
 clear e
 generalize (txtB s && decide ((1:Int)≤s.size))=r at *
 go_enter Tryz.func92,Tryz.ntmps92
 go_wp2_with (go_at_call 160;refine (H.out).mono ?_;rintro e w' ⟨rfl,rfl⟩)
 go_ret
 exact ⟨rfl,rfl⟩
def inB (n a b:Int):Bool:=decide (a≤n) && decide (n≤b)
def verB (r c:Int):Bool:=inB r 1 8 && inB c 1 1000
theorem zir (n a b:Int) (w:World) :
   Calls Tryz.prog 189 #[.int .i64 n,.int .i64 a,.int .i64 b] w fun e w'=>e=.returned (.bool (inB n a b))∧w=w':=by
 unfold inB
 by_cases h:a≤n <;> by_cases h':n≤b <;>
 ( go_enter Tryz.func189,Tryz.ntmps189
   go_wp2
   go_ret
   exact ⟨zac (by simp [h,h']),rfl⟩ )
theorem znm (r c:Int) (w:World) :
   Calls Tryz.prog 188 #[.agg #[.int .i64 r,.int .i64 c]] w fun e w'=>e=.returned (.bool (verB r c))∧Below w.heap.size w w':=by
 have H:=fun n a b w=>y06h (zir n a b w)
 unfold verB
 cases h1:inB r 1 8
 · go_enter Tryz.func188,Tryz.ntmps188
   go_wp2_with (go_at_call 189;refine ((H _ _ _ _).out).mono ?_;rintro e w' ⟨rfl,rfl⟩)
   go_ret
   exact ⟨rfl,(Below.refl _ _).alloc (Nat.le_refl _) _⟩
 · go_enter Tryz.func188,Tryz.ntmps188
   go_wp2_with (go_at_call 189;refine ((H _ _ _ _).out).mono ?_;rintro e w' ⟨rfl,rfl⟩)
   go_ret
   exact ⟨rfl,(Below.refl _ _).alloc (Nat.le_refl _) _⟩
theorem zih (r c:Int) (w:World) :
   Calls Tryz.prog 73 #[.agg #[.int .i64 r,.int .i64 c]] w fun e w'=>e=.returned (.bool (verB r c))∧Below w.heap.size w w':=by
 unfold verB inB
 by_cases h1:1≤r
 · by_cases h2:r≤8
   · by_cases h3:1≤c
     · by_cases h4:c≤1000
       all_goals
         go_enter Tryz.func73,Tryz.ntmps73
         go_wp2
         go_ret
         exact ⟨zac (by simp [h1,h2,h3,h4]),(Below.refl _ _).alloc (Nat.le_refl _) _⟩
     · go_enter Tryz.func73,Tryz.ntmps73
       go_wp2
       go_ret
       exact ⟨zac (by simp [h1,h2,h3];omega),(Below.refl _ _).alloc (Nat.le_refl _) _⟩
   · go_enter Tryz.func73,Tryz.ntmps73
     go_wp2
     go_ret
     exact ⟨zac (by simp [h1];omega),(Below.refl _ _).alloc (Nat.le_refl _) _⟩
 · go_enter Tryz.func73,Tryz.ntmps73
   go_wp2
   go_ret
   exact ⟨zac (by simp;omega),(Below.refl _ _).alloc (Nat.le_refl _) _⟩
structure Fr where
 ids:List ByteArray
 v:Nat→Int
structure Kn where
 star:Nat→Int
 l:List Fr
def eqV (A B:Nat→Int):Bool:=(List.range 8).all fun k=>A k == B k
theorem eqV_iff {A B:Nat→Int}:eqV A B=true ↔ ∀ k,k < 8→A k=B k:=by simp [eqV,List.all_eq_true]
theorem zek (A:Nat→Int):eqV A A=true:=eqV_iff.2 fun _ _=>rfl
def zad:Nat→Int:=fun _=>0
def zfi (A:Nat→Int):Prop:=∀ j,8≤j→A j=0
theorem zz7 {A B:Nat→Int} (hA:zfi A) (hB:zfi B) (h:eqV A B=true):A=B:=by
 funext j
 by_cases hj:j < 8
 · exact eqV_iff.1 h j hj
 · rw [hA j (by omega),hB j (by omega)]
def za6 (l:List ByteArray) (s:ByteArray):Bool:=l.any fun x=>x.toList == s.toList
theorem among_iff {l:List ByteArray} {s:ByteArray}:za6 l s=true ↔ s∈l:=by
 unfold za6
 rw [List.any_eq_true]
 constructor
 · rintro ⟨x,hx,e⟩;rw [tl_eq.1 e] at hx;exact hx
 · intro h;exact ⟨s,h,tl_eq.2 rfl⟩
def za3 (s:ByteArray) (st:List ByteArray × Bool) (a:ByteArray):List ByteArray × Bool :=
 let p:=!st.2 && leB s a
 let o:=if p=true then st.1 ++ [s] else st.1
 (if (a.toList == s.toList)=true then o else o ++ [a],st.2 || p)
def insF (s:ByteArray) (l:List ByteArray):List ByteArray × Bool:=l.foldl (za3 s) ([],false)
def insB (l:List ByteArray) (s:ByteArray):List ByteArray:=if (insF s l).2=true then (insF s l).1 else (insF s l).1 ++ [s]
def insR (s:ByteArray):List ByteArray→List ByteArray
 | []=>[s]
 | a :: l=>if leB s a=true then s :: (a :: l).filter (fun x=>!(x.toList == s.toList)) else a :: insR s l
theorem zv5 (s:ByteArray) (l:List ByteArray):∀ o:List ByteArray,l.foldl (za3 s) (o,true)=(o ++ l.filter (fun x=>!(x.toList == s.toList)),true):=by
 induction l with
 | nil=>intro o;simp
 | cons a l ih =>
   intro o
   rw [List.foldl_cons]
   have e:za3 s (o,true) a=(if (a.toList == s.toList)=true then o else o ++ [a],true):=by simp [za3]
   rw [e,ih]
   cases h:(a.toList == s.toList) <;> simp [h]
theorem z0m (s:ByteArray) (l:List ByteArray):∀ o:List ByteArray,(if (l.foldl (za3 s) (o,false)).2=true then (l.foldl (za3 s) (o,false)).1 else (l.foldl (za3 s) (o,false)).1 ++ [s])=o ++ insR s l:=by
 induction l with
 | nil=>intro o;simp [insR]
 | cons a l ih =>
   intro o
   rw [List.foldl_cons,insR]
   cases h:leB s a with
   | true =>
     have e:za3 s (o,false) a=(if (a.toList == s.toList)=true then o ++ [s] else o ++ [s] ++ [a],true):=by simp [za3,h]
     rw [e,zv5]
     cases h':(a.toList == s.toList) <;> simp [h']
   | false =>
     have hn:(a.toList == s.toList)=false:=tl_ne.2 (zfd (zop h))
     have e:za3 s (o,false) a=(o ++ [a],false):=by simp [za3,h,hn]
     rw [e,ih]
     simp
theorem zkv (l:List ByteArray) (s:ByteArray):insB l s=insR s l:=by
 exact (z0m s l []).trans (List.nil_append _)
theorem zqy {l:List ByteArray} {s x:ByteArray}:x∈insB l s ↔ x=s ∨ x∈l:=by
 rw [zkv]
 induction l with
 | nil=>simp [insR]
 | cons a l ih =>
   rw [insR]
   cases h:leB s a with
   | true =>
     simp only [if_true,List.mem_cons,List.mem_filter,Bool.not_eq_true',tl_ne]
     constructor
     · rintro (h | ⟨h,_⟩)
       · exact .inl h
       · exact .inr h
     · rintro (h | h)
       · exact .inl h
       · by_cases e:x=s
         · exact .inl e
         · exact .inr ⟨h,e⟩
   | false =>
     simp only [Bool.false_eq_true,if_false,List.mem_cons,ih]
     constructor
     · rintro (h | h | h)
       · exact .inr (.inl h)
       · exact .inl h
       · exact .inr (.inr h)
     · rintro (h | h | h)
       · exact .inr (.inl h)
       · exact .inl h
       · exact .inr (.inr h)
theorem zw9 {l:List ByteArray} {s:ByteArray} (h:Rise l):Rise (insB l s):=by
 rw [zkv]
 induction l with
 | nil=>simp [insR,Rise]
 | cons a l ih =>
   rw [rise_cons] at h
   rw [insR]
   cases hs:leB s a with
   | true =>
     rw [if_pos rfl,rise_cons]
     refine ⟨fun x hx=>?_,zgb (rise_cons.2 h)⟩
     rw [List.mem_filter] at hx
     obtain ⟨hx,hne⟩:=hx
     rw [Bool.not_eq_true',tl_ne] at hne
     have hax:x=a ∨ lsB a x=true:=by
       rcases List.mem_cons.1 hx with e | hx
       · exact .inl e
       · exact .inr (h.1 x hx)
     rcases le_iff.1 hs with h1 | h1
     · rcases hax with e | h2
       · subst e;exact h1
       · exact zbs h1 h2
     · subst h1
       rcases hax with e | h2
       · exact absurd e hne
       · exact h2
   | false =>
     rw [if_neg (by simp),rise_cons]
     refine ⟨fun x hx=>?_,ih h.2⟩
     rw [← zkv,zqy] at hx
     rcases hx with e | hx
     · subst e;exact zop hs
     · exact h.1 x hx
theorem zyz (l:List ByteArray) (s:ByteArray):(insB l s).length≤l.length + 1:=by
 rw [zkv]
 induction l with
 | nil=>simp [insR]
 | cons a l ih =>
   rw [insR]
   split
   · have:=List.length_filter_le (fun x:ByteArray=>!(x.toList == s.toList)) (a :: l)
     simp only [List.length_cons] at *;omega
   · simp only [List.length_cons];omega
def zbu (l:List ByteArray):List ByteArray:=l.foldl insB []
def zaf (l:List Fr):List ByteArray:=l.flatMap (·.ids)
def zbf (k:Kn):List ByteArray:=zbu (zaf k.l)
theorem zp0 (l:List ByteArray) (s:ByteArray):zbu (l ++ [s])=insB (zbu l) s:=by simp [zbu]
theorem zh7 (l:List ByteArray):∀ o:List ByteArray,Rise o→Rise (l.foldl insB o)∧(∀ x,x∈l.foldl insB o ↔ x∈o ∨ x∈l)∧(l.foldl insB o).length≤o.length + l.length:=by
 induction l with
 | nil=>intro o h;exact ⟨h,fun x=>by simp,by simp⟩
 | cons a l ih =>
   intro o h
   obtain ⟨h1,h2,h3⟩:=ih (insB o a) (zw9 h)
   refine ⟨h1,fun x=>?_,?_⟩
   · rw [List.foldl_cons,h2,zqy,List.mem_cons]
     constructor
     · rintro ((h | h) | h)
       · exact .inr (.inl h)
       · exact .inl h
       · exact .inr (.inr h)
     · rintro (h | h | h)
       · exact .inl (.inr h)
       · exact .inl (.inl h)
       · exact .inr h
   · have:=zyz o a
     simp only [List.foldl_cons,List.length_cons] at *;omega
theorem zj5 (l:List ByteArray):Rise (zbu l):=(zh7 l [] (by simp [Rise])).1
theorem mem_all {l:List ByteArray} {x:ByteArray}:x∈zbu l ↔ x∈l:=by
 have:=(zh7 l [] (by simp [Rise])).2.1 x
 unfold zbu
 simpa using this
theorem ziu (l:List ByteArray):(zbu l).length≤l.length:=by
 have:=(zh7 l [] (by simp [Rise])).2.2
 unfold zbu
 simpa using this
theorem mem_names {k:Kn} {x:ByteArray}:x∈zbf k ↔ ∃ f∈k.l,x∈f.ids:=by
 unfold zbf zaf
 rw [mem_all,List.mem_flatMap]
def zcf (id:ByteArray) (A:Nat→Int) (f:Fr):Nat→Int:=if za6 f.ids id=true then maxV A f.v else A
def rawF (l:List Fr) (id:ByteArray):Nat→Int:=l.foldl (zcf id) zad
def beyB (k:Kn) (id:ByteArray) (j:Nat):Int:=if j < 8 then (if rawF k.l id j≤k.star j then 0 else rawF k.l id j) else 0
theorem zh0 (k:Kn) (id:ByteArray):zfi (beyB k id):=fun j hj=>by unfold beyB;rw [if_neg (by omega)]
theorem zie (id:ByteArray) (l:List Fr) (j:Nat):∀ A:Nat→Int,A j≤l.foldl (zcf id) A j∧(∀ f∈l,id∈f.ids→f.v j≤l.foldl (zcf id) A j)∧(l.foldl (zcf id) A j=A j ∨ ∃ f∈l,id∈f.ids∧l.foldl (zcf id) A j=f.v j):=by
 induction l with
 | nil=>intro A;simp
 | cons g l ih =>
   intro A
   rw [List.foldl_cons]
   obtain ⟨h1,h2,h3⟩:=ih (zcf id A g)
   have hs:A j≤zcf id A g j∧(id∈g.ids→g.v j≤zcf id A g j)∧(zcf id A g j=A j ∨ id∈g.ids∧zcf id A g j=g.v j):=by
     unfold zcf
     by_cases h:za6 g.ids id=true
     · rw [if_pos h]
       have hm:=among_iff.1 h
       unfold maxV
       split
       · exact ⟨by omega,fun _=>by omega,.inr ⟨hm,rfl⟩⟩
       · exact ⟨by omega,fun _=>by omega,.inl rfl⟩
     · rw [if_neg h]
       exact ⟨by omega,fun hm=>absurd (among_iff.2 hm) h,.inl rfl⟩
   refine ⟨by omega,fun f hf hm=>?_,?_⟩
   · rcases List.mem_cons.1 hf with e | hf
     · subst e;have:=hs.2.1 hm;omega
     · exact h2 f hf hm
   · rcases h3 with h3 | ⟨f,hf,hm,e⟩
     · rcases hs.2.2 with h | ⟨hm,h⟩
       · exact .inl (by rw [h3,h])
       · exact .inr ⟨g,by simp,hm,by rw [h3,h]⟩
     · exact .inr ⟨f,by simp [hf],hm,e⟩
theorem zdp (l:List Fr) (id:ByteArray) (j:Nat):0≤rawF l id j:=(zie id l j zad).1
theorem zgj {l:List Fr} {id:ByteArray} {f:Fr} (hf:f∈l) (hm:id∈f.ids) (j:Nat):f.v j≤rawF l id j:=(zie id l j zad).2.1 f hf hm
theorem zfo (l:List Fr) (id:ByteArray) (j:Nat):rawF l id j=0 ∨ ∃ f∈l,id∈f.ids∧rawF l id j=f.v j:=(zie id l j zad).2.2
theorem zkf (k:Kn) (id:ByteArray) (j:Nat):0≤beyB k id j:=by
 unfold beyB
 have:=zdp k.l id j
 split
 · split <;> omega
 · omega
theorem zwu {l:List Fr} {id:ByteArray} (h:∀ f∈l,id ∉ f.ids) (j:Nat):rawF l id j=0:=by
 rcases zfo l id j with h' | ⟨f,hf,hm,_⟩
 · exact h'
 · exact absurd hm (h f hf)
theorem zjn {k:Kn} {id:ByteArray} (h:id ∉ zbf k):beyB k id=zad:=by
 have h0:=fun j=>zwu (l:=k.l) (id:=id) (fun f hf hm=>h (mem_names.2 ⟨f,hf,hm⟩)) j
 funext j
 unfold beyB zad
 rw [h0 j]
 split
 · split <;> rfl
 · rfl
theorem zk6 (l m:List Fr) (id:ByteArray) (j:Nat):rawF (l ++ m) id j=maxV (rawF l id) (rawF m id) j:=by
 have a1:=zdp l id j
 have a2:=zdp m id j
 have a3:=zdp (l ++ m) id j
 have b1:rawF l id j≤rawF (l ++ m) id j:=by
   rcases zfo l id j with h | ⟨f,hf,hm,e⟩
   · omega
   · rw [e];exact zgj (by simp [hf]) hm j
 have b2:rawF m id j≤rawF (l ++ m) id j:=by
   rcases zfo m id j with h | ⟨f,hf,hm,e⟩
   · omega
   · rw [e];exact zgj (by simp [hf]) hm j
 have b3:rawF (l ++ m) id j≤rawF l id j ∨ rawF (l ++ m) id j≤rawF m id j:=by
   rcases zfo (l ++ m) id j with h | ⟨f,hf,hm,e⟩
   · left;omega
   · rcases List.mem_append.1 hf with hf | hf
     · left;rw [e];exact zgj hf hm j
     · right;rw [e];exact zgj hf hm j
 unfold maxV
 split <;> omega
def putF (v:Nat→Int) (id:ByteArray):List Fr→List Fr
 | []=>[⟨[id],v⟩]
 | f :: l=>if eqV f.v v=true then ⟨f.ids ++ [id],f.v⟩ :: l else f :: putF v id l
def zaw (F:ByteArray→Nat→Int) (o:List Fr) (id:ByteArray):List Fr:=if eqV (F id) zad=true then o else putF (F id) id o
def grpF (F:ByteArray→Nat→Int) (ids:List ByteArray):List Fr:=ids.foldl (zaw F) []
def zah (k:Kn):Kn:=⟨k.star,grpF (beyB k) (zbf k)⟩
def zal (k:Kn) (id:ByteArray) (r c:Int):Kn:=⟨k.star,k.l ++ [⟨[id],zav zad r c⟩]⟩
def ownK (k:Kn) (id:ByteArray) (r c:Int):Kn:=if (r < 1 ∨ 8 < r ∨ c < 1) ∨ k.star (r - 1).toNat ≠ c - 1 then zal k id r c else ⟨zav k.star r c,k.l⟩
def zdb (id:ByteArray) (r c:Int) (f:Fr):Bool:=za6 f.ids id && hasV f.v r c
def hasK (k:Kn) (id:ByteArray) (r c:Int):Bool:=hasV k.star r c || k.l.any (zdb id r c)
def zee:List ByteArray→List ByteArray→Bool
 | [],[]=>true
 | a :: l,b :: m=>(a.toList == b.toList) && zee l m
 | _,_=>false
def eqFr (a b:Fr):Bool:=eqV a.v b.v && zee a.ids b.ids
def zdm:List Fr→List Fr→Bool
 | [],[]=>true
 | a :: l,b :: m=>eqFr a b && zdm l m
 | _,_=>false
def zc8 (a b:Kn):Bool:=eqV a.star b.star && zdm a.l b.l
theorem zkn:∀ l:List ByteArray,zee l l=true
 | []=>rfl
 | a :: l=>by simp [zee,zkn l]
theorem zkm:∀ l:List Fr,zdm l l=true
 | []=>rfl
 | a :: l=>by simp [zdm,eqFr,zek,zkn,zkm l]
theorem znq {a b:Kn} (hs:eqV a.star b.star=true) (hl:a.l=b.l):zc8 a b=true:=by
 unfold zc8;rw [hs,hl,zkm];rfl
theorem zkd (a:Kn):zc8 a a=true:=znq (zek _) rfl
theorem zks (F:ByteArray→Nat→Int) (ids:List ByteArray):∀ o:List Fr,ids.foldl (zaw F) o=(ids.filter fun x=>!eqV (F x) zad).foldl (zaw F) o:=by
 induction ids with
 | nil=>intro o;rfl
 | cons a l ih =>
   intro o
   rw [List.foldl_cons,ih]
   cases h:eqV (F a) zad with
   | true=>simp [h,zaw]
   | false=>simp [h]
theorem zfm {v:Nat→Int} {id:ByteArray}:∀ {o:List Fr} {f:Fr},f∈putF v id o→f∈o ∨ f=⟨[id],v⟩ ∨ ∃ g∈o,eqV g.v v=true∧f=⟨g.ids ++ [id],g.v⟩
 | [],f,h=>by simp only [putF,List.mem_singleton] at h;exact .inr (.inl h)
 | g :: o,f,h=>by
   rw [putF] at h
   by_cases e:eqV g.v v=true
   · rw [if_pos e] at h
     rcases List.mem_cons.1 h with h | h
     · exact .inr (.inr ⟨g,by simp,e,h⟩)
     · exact .inl (by simp [h])
   · rw [if_neg e] at h
     rcases List.mem_cons.1 h with h | h
     · exact .inl (by simp [h])
     · rcases zfm h with h | h | ⟨g',hg,e',h⟩
       · exact .inl (by simp [h])
       · exact .inr (.inl h)
       · exact .inr (.inr ⟨g',by simp [hg],e',h⟩)
theorem zq3 {v:Nat→Int} {id:ByteArray}:∀ {o:List Fr},∃ f∈putF v id o,id∈f.ids
 | []=>⟨⟨[id],v⟩,by simp [putF],by simp⟩
 | g :: o=>by
   rw [putF]
   by_cases e:eqV g.v v=true
   · rw [if_pos e];exact ⟨⟨g.ids ++ [id],g.v⟩,by simp,by simp⟩
   · rw [if_neg e]
     obtain ⟨f,hf,hm⟩:=zq3 (v:=v) (id:=id) (o:=o)
     exact ⟨f,by simp [hf],hm⟩
theorem zms {v:Nat→Int} {id x:ByteArray}:∀ {o:List Fr},(∃ f∈o,x∈f.ids)→∃ f∈putF v id o,x∈f.ids
 | [],⟨f,hf,_⟩=>by simp at hf
 | g :: o,⟨f,hf,hm⟩=>by
   rw [putF]
   by_cases e:eqV g.v v=true
   · rw [if_pos e]
     rcases List.mem_cons.1 hf with h | h
     · subst h;exact ⟨⟨f.ids ++ [id],f.v⟩,by simp,by simp [hm]⟩
     · exact ⟨f,by simp [h],hm⟩
   · rw [if_neg e]
     rcases List.mem_cons.1 hf with h | h
     · subst h;exact ⟨f,by simp,hm⟩
     · obtain ⟨f',hf',hm'⟩:=zms (v:=v) (id:=id) (o:=o) ⟨f,h,hm⟩
       exact ⟨f',by simp [hf'],hm'⟩
theorem ztu {F:ByteArray→Nat→Int} (hF:∀ x,zfi (F x)) (ids:List ByteArray):∀ o:List Fr,(∀ f∈o,zfi f.v∧∀ x∈f.ids,f.v=F x) →
   (∀ f∈ids.foldl (zaw F) o,zfi f.v∧∀ x∈f.ids,f.v=F x)∧(∀ x,(∃ f∈o,x∈f.ids) ∨ (x∈ids∧eqV (F x) zad=false)→∃ f∈ids.foldl (zaw F) o,x∈f.ids):=by
 induction ids with
 | nil=>intro o h;exact ⟨h,fun x hx=>by rcases hx with hx | ⟨hx,_⟩;exact hx;simp at hx⟩
 | cons a l ih =>
   intro o h
   rw [List.foldl_cons]
   cases e:eqV (F a) zad with
   | true =>
     have:zaw F o a=o:=by simp [zaw,e]
     rw [this]
     refine ⟨(ih o h).1,fun x hx=>(ih o h).2 x ?_⟩
     rcases hx with hx | ⟨hx,hz⟩
     · exact .inl hx
     · rcases List.mem_cons.1 hx with h' | h'
       · subst h';rw [e] at hz;cases hz
       · exact .inr ⟨h',hz⟩
   | false =>
     have e':zaw F o a=putF (F a) a o:=by simp [zaw,e]
     rw [e']
     have h1:∀ f∈putF (F a) a o,zfi f.v∧∀ x∈f.ids,f.v=F x:=by
       intro f hf
       rcases zfm hf with hf | hf | ⟨g,hg,eg,hf⟩
       · exact h f hf
       · subst hf
         exact ⟨hF a,fun x hx=>by simp at hx;rw [hx]⟩
       · subst hf
         refine ⟨(h g hg).1,fun x hx=>?_⟩
         rcases List.mem_append.1 hx with hx | hx
         · exact (h g hg).2 x hx
         · simp at hx;subst hx;exact zz7 (h g hg).1 (hF x) eg
     refine ⟨(ih _ h1).1,fun x hx=>(ih _ h1).2 x ?_⟩
     rcases hx with hx | ⟨hx,hz⟩
     · exact .inl (zms hx)
     · rcases List.mem_cons.1 hx with h' | h'
       · subst h';exact .inl zq3
       · exact .inr ⟨h',hz⟩
theorem zq4 {v:Nat→Int} {id x:ByteArray}:∀ {o:List Fr},(∃ f∈putF v id o,x∈f.ids)→x=id ∨ ∃ f∈o,x∈f.ids:=by
 rintro o ⟨f,hf,hm⟩
 rcases zfm hf with hf | hf | ⟨g,hg,_,hf⟩
 · exact .inr ⟨f,hf,hm⟩
 · subst hf;simp at hm;exact .inl hm
 · subst hf
   rcases List.mem_append.1 hm with hm | hm
   · exact .inr ⟨g,hg,hm⟩
   · simp at hm;exact .inl hm
theorem zhz (k:Kn):beyB (zah k)=beyB k:=by
 obtain ⟨f1,f2⟩:=ztu (F:=beyB k) (zh0 k) (zbf k) [] (fun f hf=>by simp at hf)
 funext id j
 have hr:rawF (zah k).l id j=if j < 8 then beyB k id j else rawF (zah k).l id j:=by
   by_cases hj:j < 8
   · rw [if_pos hj]
     have h0:=zkf k id j
     have hle:rawF (zah k).l id j≤beyB k id j:=by
       rcases zfo (zah k).l id j with h | ⟨f,hf,hm,e⟩
       · omega
       · rw [e,(f1 f hf).2 id hm];omega
     cases ez:eqV (beyB k id) zad with
     | true =>
       have:=eqV_iff.1 ez j hj
       have h1:=zdp (zah k).l id j
       unfold zad at this
       omega
     | false =>
       have hn:id∈zbf k:=by
         by_cases hn:id∈zbf k
         · exact hn
         · rw [zjn hn,zek] at ez;cases ez
       obtain ⟨f,hf,hm⟩:=f2 id (.inr ⟨hn,ez⟩)
       have:=zgj (l:=(zah k).l) hf hm j
       rw [(f1 f hf).2 id hm] at this
       omega
   · rw [if_neg hj]
 show (if j < 8 then (if rawF (zah k).l id j≤(zah k).star j then 0 else rawF (zah k).l id j) else 0)=beyB k id j
 by_cases hj:j < 8
 · rw [if_pos hj] at hr ⊢
   rw [hr]
   show (if beyB k id j≤k.star j then 0 else beyB k id j)=beyB k id j
   unfold beyB
   rw [if_pos hj]
   split
   · split <;> rfl
   · rfl
 · rw [if_neg hj];exact (zh0 k id j (by omega)).symm
theorem zq1 {k k':Kn} (h:beyB k=beyB k'):(zah k).l=(zah k').l:=by
 show (zbf k).foldl (zaw (beyB k)) []=(zbf k').foldl (zaw (beyB k')) []
 rw [zks,zks (beyB k'),← h]
 congr 1
 refine zo7 (zgb (zj5 _)) (zgb (zj5 _)) fun x=>?_
 rw [List.mem_filter,List.mem_filter]
 constructor
 · rintro ⟨_,h2⟩
   refine ⟨?_,h2⟩
   by_cases hn:x∈zbf k'
   · exact hn
   · rw [h,zjn hn,zek] at h2;cases h2
 · rintro ⟨_,h2⟩
   refine ⟨?_,h2⟩
   by_cases hn:x∈zbf k
   · exact hn
   · rw [zjn hn,zek] at h2;cases h2
theorem zqu (k:Kn) (id:ByteArray) (r c:Int):hasK k id r c=(hasV k.star r c || hasV (beyB k id) r c):=by
 unfold hasK
 rw [Bool.eq_iff_iff]
 simp only [Bool.or_eq_true,List.any_eq_true,zdb,Bool.and_eq_true,among_iff]
 unfold hasV cntV
 simp only [Bool.and_eq_true,decide_eq_true_eq]
 by_cases hr:1≤r∧r≤8
 · simp only [if_pos hr]
   have hj:(r - 1).toNat < 8:=by omega
   generalize (r - 1).toNat=j at *
   have hb:beyB k id j=if rawF k.l id j≤k.star j then 0 else rawF k.l id j:=by unfold beyB;rw [if_pos hj]
   rw [hb]
   constructor
   · rintro (h | ⟨f,hf,hm,h1,h2⟩)
     · exact .inl h
     · have:=zgj hf hm j
       by_cases hc:c≤k.star j
       · exact .inl ⟨h1,hc⟩
       · right
         rw [if_neg (by omega)]
         exact ⟨h1,by omega⟩
   · rintro (h | ⟨h1,h2⟩)
     · exact .inl h
     · right
       split at h2
       · omega
       · rcases zfo k.l id j with h | ⟨f,hf,hm,e⟩
         · omega
         · exact ⟨f,hf,hm,h1,by omega⟩
 · simp only [if_neg hr]
   constructor
   · rintro (h | ⟨f,_,_,h1,h2⟩)
     · exact .inl h
     · omega
   · rintro (h | h)
     · exact .inl h
     · omega
theorem zfx (k:Kn) (id:ByteArray) (r c:Int):hasK (zah k) id r c=hasK k id r c:=by
 rw [zqu,zqu k,zhz];rfl
theorem zwc (A B:Nat→Int) (j:Nat):maxV (maxV A B) B j=maxV A B j:=by
 unfold maxV
 repeat' split
 all_goals omega
theorem zj0 (k:Kn) (id other:ByteArray) (r c yr yc:Int):hasK (zal k id r c) other yr yc=(hasK k other yr yc || ((id.toList == other.toList) && hasV (zav zad r c) yr yc)):=by
 unfold hasK zal
 rw [List.any_append]
 simp [zdb,za6,Bool.or_assoc]
theorem zhh (k:Kn) (id:ByteArray) {r c:Int} (h1:1≤r) (h2:r≤8) (h3:1≤c):hasK (zah (zal k id r c)) id r c=true:=by
 rw [zfx,zj0,zxp]
 simp [h1,h2,h3]
theorem zhi (k:Kn) (id other:ByteArray) (r c yr yc:Int) (h:hasK k other yr yc=true):hasK (zah (zal k id r c)) other yr yc=true:=by
 rw [zfx,zj0,h];rfl
theorem zqz (k:Kn) (id other:ByteArray) (r c yr yc:Int) (h:hasK (zah (zal k id r c)) other yr yc=true):hasK (zah (ownK k id r c)) other yr yc=true:=by
 unfold ownK
 split
 · exact h
 · rename_i hc
   rw [zfx,zj0,Bool.or_eq_true] at h
   rw [zfx]
   have hc1:1≤r∧r≤8∧1≤c∧k.star (r - 1).toNat=c - 1:=by omega
   rcases h with h | h
   · unfold hasK at *
     rw [Bool.or_eq_true] at *
     rcases h with h | h
     · exact .inl (z0k (zyy _ _ _) h)
     · exact .inr h
   · rw [Bool.and_eq_true] at h
     unfold hasK
     rw [Bool.or_eq_true]
     left
     have h2:=h.2
     show hasV (zav k.star r c) yr yc=true
     unfold hasV cntV at *
     simp only [Bool.and_eq_true,decide_eq_true_eq] at *
     refine ⟨h2.1,?_⟩
     have h3:=h2.2
     split at h3
     · rename_i hr
       rw [if_pos hr]
       unfold zav zad at *
       by_cases e:(yr - 1).toNat=(r - 1).toNat
       · rw [if_pos (by omega)] at h3
         have:(yr - 1).toNat=(r - 1).toNat∧1≤r∧r≤8∧k.star (yr - 1).toNat < c:=by
           refine ⟨e,by omega,by omega,?_⟩
           rw [e];omega
         rw [if_pos this];exact h3
       · rw [if_neg (by omega)] at h3;omega
     · omega
end Go.Proofs.YtodfhabkdaiopaaGreat
