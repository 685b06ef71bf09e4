/- Joined: RefList3, ItemD, VecL, PlainM. -/
import Derived.Test.YthnllikalobmeaaGreatJ07
import Derived.Test.YthnllikalobmeaaGreatJ05
import Derived.Laws.StructEq
import Derived.Laws.Tables
import Derived.Laws.Cover2
namespace Go.Proofs.YthnllikalobmeaaGreat
set_option linter.unusedVariables false
set_option linter.unusedSimpArgs false
set_option maxRecDepth 100000
set_option maxHeartbeats 8000000
open Go.RowKit
theorem y09h {p:Prop} (h:p):Hid p:=Lib.hid h
def zbe (f:Itm → Itm → Bool):List Itm → List Itm → Bool
 | [],[]=>true
 | a :: l,b :: m=>f a b && zbe f l m
 | _,_=>false
theorem zkv {f:Itm → Itm → Bool}:∀ {l m:List Itm},l.length ≠ m.length → zbe f l m = false
 | [],[],h=>absurd rfl h
 | [],_ :: _,_=>rfl
 | _ :: _,[],_=>rfl
 | a :: l,b :: m,h=>by
   simp only [zbe,Bool.and_eq_false_iff]
   exact .inr (zkv fun e=>h (by simp [e]))
theorem zg4 {f:Itm → Itm → Bool}:∀ {l m:List Itm},l.length = m.length → (zbe f l m = true ↔ ∀ (j:Nat) (a b:Itm),l[j]? = some a → m[j]? = some b → f a b = true)
 | [],[],_=>by simp [zbe]
 | [],_ :: _,h=>by simp at h
 | _ :: _,[],h=>by simp at h
 | a :: l,b :: m,h=>by
   simp only [zbe,Bool.and_eq_true]
   rw [zg4 (by simpa using h)]
   constructor
   · rintro ⟨h1,h2⟩ j x y hx hy
     cases j with
     | zero=>simp at hx hy;subst hx hy;exact h1
     | succ j=>exact h2 j x y (by simpa using hx) (by simpa using hy)
   · intro h
     exact ⟨h 0 a b rfl rfl,fun j x y hx hy=>h (j + 1) x y (by simpa using hx) (by simpa using hy)⟩
theorem zt2 {f:Itm → Itm → Bool} {l m:List Itm} (hl:l.length = m.length) {j:Nat} {a b:Itm} (ha:l[j]? = some a) (hb:m[j]? = some b) (h:f a b = false):zbe f l m = false:=by
 cases e:zbe f l m with
 | false=>rfl
 | true=>rw [(zg4 hl).1 e j a b ha hb] at h;cases h
def zuv (f:Itm → Itm → Bool) (l m:List Itm) (len:Nat) (w:World) (iv:Value) (wr:World):Prop :=
 ∃ k:Nat,k ≤ len ∧ iv = .int .i64 k ∧ Hid (∀ j a b,j < k → l[j]? = some a → m[j]? = some b → f a b = true) ∧ Hid (Below w.heap.size w wr)
theorem zcr (f:Itm → Itm → Bool) (HF:∀ (a b:Itm) (w:World),Calls Tryz.prog 59 #[iV a,iV b] w fun e w'=>e = .returned (.bool (f a b)) ∧ Below w.heap.size w w')
   (l m:List Itm) (v v':Value) (w:World) (hR:Row 8 ic w l v) (hM:Row 8 ic w m v') :
   Calls Tryz.prog 26 #[v,v'] w fun e w'=>e = .returned (.bool (zbe f l m)) ∧ Below w.heap.size w w':=by
 obtain ⟨oa,cap,b,o,rfl,hr⟩:=hR
 obtain ⟨oa',cap',b',o',rfl,hr'⟩:=hM
 have HR:=y09h hr
 have HR':=y09h hr'
 have hcap:=hr.len
 have hmax:=hr.max
 have hcap':=hr'.len
 have hmax':=hr'.max
 unfold maxLen at hmax hmax'
 clear hr hr'
 generalize hres:zbe f l m = res at *
 have HRES:=y09h hres
 clear hres
 generalize hn:l.length = len at *
 have HN:=y09h hn
 generalize hn':m.length = len' at *
 have HN':=y09h hn'
 clear hn hn'
 by_cases hne:len = len'
 case neg =>
   have E:=y09h (show res = false by rw [← HRES.out];exact zkv (by rw [HN.out,HN'.out];exact hne))
   go_enter Tryz.func26,Tryz.ntmps26
   go_wp2_with fail
   go_ret
   exact ⟨zaa E.out.symm,Below.refl _ _⟩
 subst hne
 go_enter Tryz.func26,Tryz.ntmps26
 go_wp2_with fail
 go_loopw [5] (fun iv wr=>zuv f l m len w iv wr) (fun iv _=>len - (intOf iv).toNat)
 case atStart=>exact ⟨0,Nat.zero_le _,rfl,fun j a b hj=>absurd hj (by omega),Below.refl _ _⟩
 case round =>
   obtain ⟨k,hk,rfl,HS,HB⟩:=hrel
   by_cases hlt:k < len
   · obtain ⟨i,hi9⟩:∃ i,l[k]? = some i:=⟨_,List.getElem?_eq_getElem (by rw [HN.out];omega)⟩
     obtain ⟨y,hy9⟩:∃ y,m[k]? = some y:=⟨_,List.getElem?_eq_getElem (by rw [HN'.out];omega)⟩
     obtain ⟨rfl,hb0⟩:=HR.out.at0 (by rw [HN.out];omega)
     obtain ⟨rfl,hb0'⟩:=HR'.out.at0 (by rw [HN'.out];omega)
     obtain ⟨c0,c1,c2,c3,c4,c5,c6,c7⟩:=zaw (w:=wr) (fun j u hu=>(HB.out.cell (p:=⟨b,o + k * 8 + j,none⟩) hb0).trans (HR.out.cell k i hi9 j u hu))
     obtain ⟨d0,d1,d2,d3,d4,d5,d6,d7⟩:=zaw (w:=wr) (fun j u hu=>(HB.out.cell (p:=⟨b',o' + k * 8 + j,none⟩) hb0').trans (HR'.out.cell k y hy9 j u hu))
     have r0:=fun dd os=>cell_regrown c0 dd os
     have r1:=fun dd os=>cell_regrown c1 dd os
     have r2:=fun dd os=>cell_regrown c2 dd os
     have r3:=fun dd os=>cell_regrown c3 dd os
     have r4:=fun dd os=>cell_regrown c4 dd os
     have r5:=fun dd os=>cell_regrown c5 dd os
     have r6:=fun dd os=>cell_regrown c6 dd os
     have r7:=fun dd os=>cell_regrown c7 dd os
     have s0:=fun dd os=>cell_regrown d0 dd os
     have s1:=fun dd os=>cell_regrown d1 dd os
     have s2:=fun dd os=>cell_regrown d2 dd os
     have s3:=fun dd os=>cell_regrown d3 dd os
     have s4:=fun dd os=>cell_regrown d4 dd os
     have s5:=fun dd os=>cell_regrown d5 dd os
     have s6:=fun dd os=>cell_regrown d6 dd os
     have s7:=fun dd os=>cell_regrown d7 dd os
     have m1:=fun dd os=>y09h (Calls.regrown_of (HF i y (Sort.grow (redrawn wr dd) os)))
     have k0:(0:Int) ≤ (k:Int):=by omega
     have k1:(k:Int) < (len:Int):=by omega
     have HI:=y09h hi9
     have HY:=y09h hy9
     clear hi9 hy9 c0 d0 c1 d1 c2 d2 c3 d3 c4 d4 c5 d5 c6 d6 c7 d7
     cases ht:f i y
     · have E:=y09h (show res = false by rw [← HRES.out];exact zt2 (by rw [HN.out,HN'.out]) HI.out HY.out ht)
       rw [ht] at m1
       clear ht
       go_wp2_with fail
       refine wp_region_quiet_below (by kernel_rfl) (by kernel_rfl) ?_
       repeat (first | go_big_quiet_step ((with_reducible exact (m1 _ _).out)) | quiet_step ((with_reducible exact (m1 _ _).out)))
       refine wpQuiet_nil ?_
       intro w7 hw'
       have hb':=y09h (zae hw')
       clear hw'
       clear m1
       go_wp2_with fail
       go_ret
       exact ⟨zaa E.out.symm,HB.out.trans (hb'.out.mono HB.out.size)⟩
     · have HS2:=y09h (show ∀ j a b,j < k + 1 → l[j]? = some a → m[j]? = some b → f a b = true from fun j a b hj ha hb=>by
         by_cases e:j = k
         · subst e;rw [HI.out] at ha;rw [HY.out] at hb;cases ha;cases hb;exact ht
         · exact HS.out j a b (by omega) ha hb)
       rw [ht] at m1
       clear ht
       go_wp2_with fail
       refine wp_region_quiet_below (by kernel_rfl) (by kernel_rfl) ?_
       repeat (first | go_big_quiet_step ((with_reducible exact (m1 _ _).out)) | quiet_step ((with_reducible exact (m1 _ _).out)))
       refine wpQuiet_nil ?_
       intro w7 hw'
       have hb':=y09h (zae hw')
       clear hw'
       clear m1 r0 s0 r1 s1 r2 s2 r3 s3 r4 s4 r5 s5 r6 s6 r7 s7
       go_wp2_with fail
       go_roundw
       case rel=>exact ⟨k + 1,by omega,by go_num,HS2.out,y09h (HB.out.trans (hb'.out.mono HB.out.size))⟩
       case measure=>simp [intOf];omega
   · have E:=y09h (show res = true by
       rw [← HRES.out,zg4 (by rw [HN.out,HN'.out])]
       exact fun j a b ha hb=>HS.out j a b (by have:=zbj ha;rw [HN.out] at this;omega) ha hb)
     go_wp2_with fail
     go_ret
     exact ⟨zaa E.out.symm,HB.out⟩
def zby (f:Itm → Itm → Bool) (out:List Itm) (y:Itm):List Itm:=if (!(getI out y.id).2 || f y (getI out y.id).1) = true then putI out y else out
def zao (f:Itm → Itm → Bool) (a b:List Itm):List Itm:=b.foldl (zby f) a
theorem zqp {f:Itm → Itm → Bool} {a b:List Itm} {k:Nat} {y:Itm} (h:b[k]? = some y):zao f a (b.take (k + 1)) = zby f (zao f a (b.take k)) y:=by
 unfold zao;rw [zdk h,List.foldl_append];rfl
theorem zc2 (l:List Itm) (x:Itm):(putI l x).length ≤ l.length + 1:=by
 unfold putI
 simp only [List.length_append,List.length_cons,List.length_nil]
 have:(l.filter fun i=>lsB i.id x.id).length + (l.filter fun i=>gtB i.id x.id).length ≤ l.length:=by
   induction l with
   | nil=>simp
   | cons a l ih =>
     simp only [List.filter_cons]
     cases h1:lsB a.id x.id
     · cases gtB a.id x.id <;> simp <;> omega
     · have h2:gtB a.id x.id = false:=by
         unfold gtB
         unfold lsB at h1
         rw [h1];rfl
       rw [h2]
       simp
       omega
 omega
theorem zhf {l:List Itm} {x i:Itm} (h:i ∈ putI l x):i ∈ l ∨ i = x:=by
 unfold putI at h
 simp only [List.mem_append,List.mem_filter,List.mem_cons,List.not_mem_nil,or_false] at h
 rcases h with (h | h) | h
 · exact .inl h.1
 · exact .inr h
 · exact .inl h.1
theorem zt6 (f:Itm → Itm → Bool) (l:List Itm) (y:Itm):(zby f l y).length ≤ l.length + 1:=by
 unfold zby;split
 · exact zc2 l y
 · omega
theorem zt7 {f:Itm → Itm → Bool} {l:List Itm} {y i:Itm} (h:i ∈ zby f l y):i ∈ l ∨ i = y:=by
 unfold zby at h;split at h
 · exact zhf h
 · exact .inl h
def zuo (F:Nat → List Itm) (len n0:Nat) (w:World) (lv iv:Value) (wr:World):Prop :=
 ∃ (k:Nat) (sv:Value),k ≤ len ∧ iv = .int .i64 k ∧ sv = lv ∧ Hid (Row 8 ic wr (F k) sv) ∧ Hid ((F k).length ≤ n0 + k) ∧ Hid (Below w.heap.size w wr)
theorem zg3 {P:Program} (w:World) (a:Addr):(storeCells a ([]:List Value)).run P w = .ok () w:=by simp [storeCells]
attribute [local go_sem] zg3
theorem zo3 (f:Itm → Itm → Bool) (HF:∀ (a b:Itm) (w:World),Calls Tryz.prog 105 #[iV a,iV b] w fun e w'=>e = .returned (.bool (f a b)) ∧ Below w.heap.size w w')
   (l m:List Itm) (v v':Value) (w:World) (hR:Row 8 ic w l v) (hM:Row 8 ic w m v') (h1:l.length ≤ 1000) (h2:m.length ≤ 1000) :
   Calls Tryz.prog 58 #[v,v'] w fun e w'=>∃ v2,e = .returned v2 ∧ Row 8 ic w' (zao f l m) v2 ∧ Below w.heap.size w w':=by
 obtain ⟨oa,cap,b,o,rfl,hr⟩:=hR
 obtain ⟨oa',cap',b',o',rfl,hr'⟩:=hM
 obtain ⟨i0,hi,hz0,hz1,hz2⟩:=info_parts zb1
 have HR:=y09h hr
 have HR':=y09h hr'
 have hcap:=hr.len
 have hmax:=hr.max
 have hcap':=hr'.len
 have hmax':=hr'.max
 unfold maxLen at hmax hmax'
 clear hr hr'
 generalize hn:l.length = len at *
 have HN:=y09h hn
 generalize hn':m.length = len' at *
 have HN':=y09h hn'
 clear hn hn'
 go_enter Tryz.func58,Tryz.ntmps58
 go_upto_region 1 with fail
 go_cut [5] (fun s5 wx=>Hid (Row 8 ic wx l s5 ∧ Below w.heap.size w wx))
 case first =>
   have B1:=y09h ((Below.refl w.heap.size w).alloc (Nat.le_refl _) (.cells #[] 69))
   by_cases hz:len = 0
   · subst hz
     have hl0:l = []:=List.length_eq_zero_iff.1 HN.out
     have HZ:=y09h (show Row 8 ic (w.alloc (.cells #[] 69)) l (.slice (some ⟨w.heap.size,0,none⟩) 0 0) by
       subst hl0
       exact ⟨_,0,w.heap.size,0,rfl,Nat.le_refl _,by decide,fun h=>absurd h (by simp),fun k i h=>by simp at h,fun i h=>by simp at h⟩)
     clear hl0
     cases oa
     all_goals
       go_wp2_with fail
       go_meet
       exact ⟨HZ.out,B1.out⟩
   · obtain ⟨rfl,hb0⟩:=HR.out.at0 (by rw [HN.out];omega)
     have O1:OwnI (w.alloc (.cells #[] 69)) w.heap.size [] (.slice (some ⟨w.heap.size,0,none⟩) 0 0) :=
       ⟨rfl,.inr ⟨w.heap.size,0,#[],rfl,Nat.le_refl _,heap_alloc_new w _,Nat.le_refl _,by decide,rfl,rfl⟩⟩
     have HO1:=y09h O1
     have hown:(w.alloc (.cells #[] 69)).ownsRow w.heap.size 69 8 (.slice (some ⟨w.heap.size,0,none⟩) 0 0) 0 []:=O1
     clear O1
     have hcl:=zcn l
     rw [HN.out] at hcl
     have HL:=y09h hcl
     clear hcl
     have hone:∀ u ∈ zap l,u.oneCell' = true:=by
       intro u hu
       unfold zap at hu
       rw [List.mem_flatMap] at hu
       obtain ⟨i,_,hu⟩:=hu
       exact zc7 i u hu
     have HONE:=y09h hone
     clear hone
     go_wp2_with (at_builtin;refine wpList_append_lies _ (by rfl) _ _ _ (by rfl) w.heap.size 69 i0 _ 8 88 Tryz.underlying41 hi hz0 hz1 hz2 rfl (by omega) (.slice (some ⟨w.heap.size,0,none⟩) 0 0) 0 [] (by rfl) hown ⟨b,o,none⟩ len cap (zap l) (by rfl) HL.out (zg0 (HR.out.later ((Below.refl _ _).alloc (Nat.le_refl _) _)) HN.out) HONE.out (by omega) (by unfold maxLen;omega) (by omega) (by simp) (w.heap.size + 1) (by simp) ?_;intro g cap2 w3 hown3 hgrow hat hlt3)
     have R1:=y09h (show OwnI w3 w.heap.size l (.slice (some ⟨g,0,none⟩) len cap2) by
       unfold OwnI
       rw [HN.out]
       simpa using hown3)
     have R2:=y09h (za3 HO1.out B1.out (Nat.le_refl _) hgrow B1.out.size)
     clear hown hown3 hgrow hat
     go_meet
     exact ⟨R1.out.row HR.out.ok,R2.out⟩
 case rest =>
   obtain ⟨hrow,hbel⟩:=hcut.out
   have HROW:=y09h hrow
   have HBEL:=y09h hbel
   clear hcut hrow hbel
   go_wp2_with fail
   go_loopw [5,6] (fun lv iv wr=>zuo (fun k=>zao f l (m.take k)) len' len w lv iv wr) (fun _ iv _=>len' - (intOf iv).toNat)
   case atStart=>exact ⟨0,_,Nat.zero_le _,rfl,rfl,by unfold Hid;exact HROW.out,by unfold Hid;show l.length ≤ _;rw [HN.out];omega,HBEL⟩
   case round =>
     obtain ⟨k,sv,hk,rfl,rfl,HO,HLEN,HB⟩:=hrel
     replace HO:=y09h (show Row 8 ic wr (zao f l (m.take k)) sv from HO.out)
     replace HLEN:=y09h (show (zao f l (m.take k)).length ≤ len + k from HLEN.out)
     by_cases hlt:k < len'
     · obtain ⟨y,hy9⟩:∃ y,m[k]? = some y:=⟨_,List.getElem?_eq_getElem (by rw [HN'.out];omega)⟩
       obtain ⟨rfl,hb0'⟩:=HR'.out.at0 (by rw [HN'.out];omega)
       have hs:=zqp (f:=f) (a:=l) hy9
       generalize zao f l (m.take k) = out at *
       have HS:=y09h hs
       have HY:=y09h hy9
       obtain ⟨oo,co,bo,ofo,rfl,hro⟩:=HO.out
       have HRO:=y09h hro
       have GT:=y09h (zeo out y.id (.slice oo out.length co) wr ⟨oo,co,bo,ofo,rfl,hro⟩)
       have hol:=HLEN.out
       have hoc:=hro.len
       have hom:=hro.max
       unfold maxLen at hom
       generalize hgg:getI out y.id = g at *
       have HG:=y09h hgg
       have d0:=(zaw (w:=wr) (fun j u hu=>(HB.out.cell (p:=⟨b',o' + k * 8 + j,none⟩) hb0').trans (HR'.out.cell k y hy9 j u hu))).1
       have zb:=Nat.lt_of_lt_of_le hb0' HB.out.size
       clear hs hy9 hro hgg
       go_wp2_with fail
       refine GT.out.mono ?_
       rintro e w2 ⟨rfl,hb2⟩
       have HB2:=y09h (HB.out.trans (hb2.mono HB.out.size))
       have HRO2:=y09h (HRO.out.later hb2)
       clear hb2 d0
       go_wp2_with fail
       have OH:=y09h (Own.new w2 #[.string g.1.id,.int .i64 g.1.r,.int .i64 g.1.c,.int .i64 g.1.st,.string g.1.kd,.int .i64 g.1.num,.complex .f64 g.1.x g.1.y,.bool g.1.d] 69)
       have HB3:=y09h (HB2.out.alloc HB2.out.size (.cells #[.string g.1.id,.int .i64 g.1.r,.int .i64 g.1.c,.int .i64 g.1.st,.string g.1.kd,.int .i64 g.1.num,.complex .f64 g.1.x g.1.y,.bool g.1.d] 69))
       have HRO3:=y09h (HRO2.out.later ((Below.refl _ _).alloc (Nat.le_refl _) (.cells #[.string g.1.id,.int .i64 g.1.r,.int .i64 g.1.c,.int .i64 g.1.st,.string g.1.kd,.int .i64 g.1.num,.complex .f64 g.1.x g.1.y,.bool g.1.d] 69)))
       generalize w2.heap.size = NH at *
       generalize w2.alloc (.cells #[.string g.1.id,.int .i64 g.1.r,.int .i64 g.1.c,.int .i64 g.1.st,.string g.1.kd,.int .i64 g.1.num,.complex .f64 g.1.x g.1.y,.bool g.1.d] 69) = w3 at *
       obtain ⟨d0,d1,d2,d3,d4,d5,d6,d7⟩:=zaw (w:=w3) (fun j u hu=>(HB3.out.cell (p:=⟨b',o' + k * 8 + j,none⟩) hb0').trans (HR'.out.cell k y HY.out j u hu))
       have r0:=fun dd os=>cell_regrown d0 dd os
       have r1:=fun dd os=>cell_regrown d1 dd os
       have r2:=fun dd os=>cell_regrown d2 dd os
       have r3:=fun dd os=>cell_regrown d3 dd os
       have r4:=fun dd os=>cell_regrown d4 dd os
       have r5:=fun dd os=>cell_regrown d5 dd os
       have r6:=fun dd os=>cell_regrown d6 dd os
       have r7:=fun dd os=>cell_regrown d7 dd os
       have LA:=fun dd os o=>OH.out.has.regrown dd os o
       have zb3:=Nat.lt_of_lt_of_le hb0' HB3.out.size
       have k0:(0:Int) ≤ (k:Int):=by omega
       have k1:(k:Int) < (len':Int):=by omega
       clear d0 d1 d2 d3 d4 d5 d6 d7
       have m1:=fun dd os=>y09h (Calls.regrown_of (HF y g.1 (Sort.grow (redrawn w3 dd) os)))
       have hsp:(!g.2 || f y g.1) = true → zao f l (m.take (k + 1)) = putI out y:=fun h=>by rw [HS.out];unfold zby;rw [HG.out,if_pos h]
       have hsk:(!g.2 || f y g.1) = false → zao f l (m.take (k + 1)) = out:=fun h=>by rw [HS.out];unfold zby;rw [HG.out,if_neg (by rw [h];simp)]
       have HSP:=y09h hsp
       have HSK:=y09h hsk
       clear hsp hsk
       generalize f y g.1 = fy at *
       generalize hg2:g.2 = g2 at *
       have hways:(g2 = false) ∨ (g2 = true ∧ fy = true) ∨ (g2 = true ∧ fy = false):=by cases g2 <;> cases fy <;> simp
       rcases hways with rfl | ⟨rfl,rfl⟩ | ⟨rfl,rfl⟩
       · go_wp2_with fail
         refine wp_region_quiet_below (by kernel_rfl) (by kernel_rfl) ?_
         repeat (first | go_big_quiet_step ((with_reducible exact (m1 _ _).out)) | quiet_step ((with_reducible exact (m1 _ _).out)))
         refine wpQuiet_nil ?_
         intro w7 hw'
         have hb':=y09h (zae hw')
         clear hw'
         clear m1 LA r0 r1 r2 r3 r4 r5 r6 r7
         have HB7:=y09h (HB3.out.trans (hb'.out.mono HB3.out.size))
         have HRO7:=y09h (HRO3.out.later hb'.out)
         have hst:=HSP.out rfl
         have HST:=y09h hst
         clear hst
         obtain ⟨d0,d1,d2,d3,d4,d5,d6,d7⟩:=zaw (w:=w7) (fun j u hu=>(HB7.out.cell (p:=⟨b',o' + k * 8 + j,none⟩) hb0').trans (HR'.out.cell k y HY.out j u hu))
         have zb7:=Nat.lt_of_lt_of_le hb0' HB7.out.size
         have PT:=y09h (zgy out y (.slice oo out.length co) w7 ⟨oo,co,bo,ofo,rfl,HRO7.out⟩ (by omega))
         go_wp2_with fail
         refine PT.out.mono ?_
         rintro e w8 ⟨v8,rfl,ho8,hb8⟩
         have HB8:=y09h (HB7.out.trans (hb8.mono HB7.out.size))
         have HR8:=y09h (ho8.row (fun i hi=>by
           rcases zhf hi with h | h
           · exact HRO7.out.ok i h
           · rw [h];exact HR'.out.ok y (List.mem_of_getElem? HY.out)))
         clear ho8 hb8
         go_wp2_with fail
         go_roundw
         case rel=>exact ⟨k + 1,_,by omega,by go_num,rfl,y09h (by show Row 8 ic w8 (zao f l (m.take (k + 1))) v8;rw [HST.out];exact HR8.out),y09h (by show (zao f l (m.take (k + 1))).length ≤ _;rw [HST.out];have:=zc2 out y;omega),HB8⟩
         case measure=>simp [intOf];omega
       · go_wp2_with fail
         refine wp_region_quiet_below (by kernel_rfl) (by kernel_rfl) ?_
         repeat (first | go_big_quiet_step ((with_reducible exact (m1 _ _).out)) | quiet_step ((with_reducible exact (m1 _ _).out)))
         refine wpQuiet_nil ?_
         intro w7 hw'
         have hb':=y09h (zae hw')
         clear hw'
         clear m1 LA r0 r1 r2 r3 r4 r5 r6 r7
         have HB7:=y09h (HB3.out.trans (hb'.out.mono HB3.out.size))
         have HRO7:=y09h (HRO3.out.later hb'.out)
         have hst:=HSP.out rfl
         have HST:=y09h hst
         clear hst
         obtain ⟨d0,d1,d2,d3,d4,d5,d6,d7⟩:=zaw (w:=w7) (fun j u hu=>(HB7.out.cell (p:=⟨b',o' + k * 8 + j,none⟩) hb0').trans (HR'.out.cell k y HY.out j u hu))
         have zb7:=Nat.lt_of_lt_of_le hb0' HB7.out.size
         have PT:=y09h (zgy out y (.slice oo out.length co) w7 ⟨oo,co,bo,ofo,rfl,HRO7.out⟩ (by omega))
         go_wp2_with fail
         refine PT.out.mono ?_
         rintro e w8 ⟨v8,rfl,ho8,hb8⟩
         have HB8:=y09h (HB7.out.trans (hb8.mono HB7.out.size))
         have HR8:=y09h (ho8.row (fun i hi=>by
           rcases zhf hi with h | h
           · exact HRO7.out.ok i h
           · rw [h];exact HR'.out.ok y (List.mem_of_getElem? HY.out)))
         clear ho8 hb8
         go_wp2_with fail
         go_roundw
         case rel=>exact ⟨k + 1,_,by omega,by go_num,rfl,y09h (by show Row 8 ic w8 (zao f l (m.take (k + 1))) v8;rw [HST.out];exact HR8.out),y09h (by show (zao f l (m.take (k + 1))).length ≤ _;rw [HST.out];have:=zc2 out y;omega),HB8⟩
         case measure=>simp [intOf];omega
       · go_wp2_with fail
         refine wp_region_quiet_below (by kernel_rfl) (by kernel_rfl) ?_
         repeat (first | go_big_quiet_step ((with_reducible exact (m1 _ _).out)) | quiet_step ((with_reducible exact (m1 _ _).out)))
         refine wpQuiet_nil ?_
         intro w7 hw'
         have hb':=y09h (zae hw')
         clear hw'
         clear m1 LA r0 r1 r2 r3 r4 r5 r6 r7
         have HB7:=y09h (HB3.out.trans (hb'.out.mono HB3.out.size))
         have HRO7:=y09h (HRO3.out.later hb'.out)
         have hst:=HSK.out rfl
         have HST:=y09h hst
         clear hst
         go_wp2_with fail
         go_roundw
         case rel=>exact ⟨k + 1,_,by omega,by go_num,rfl,y09h (by show Row 8 ic w7 (zao f l (m.take (k + 1))) _;rw [HST.out];exact ⟨oo,co,bo,ofo,rfl,HRO7.out⟩),y09h (by show (zao f l (m.take (k + 1))).length ≤ _;rw [HST.out];omega),HB7⟩
         case measure=>simp [intOf];omega
     · have e:len' = k:=by omega
       subst e
       have h9:=HO.out
       rw [List.take_of_length_le (by rw [HN'.out];omega)] at h9
       have H9:=y09h h9
       clear h9
       go_wp2_with fail
       go_ret
       exact ⟨_,rfl,H9.out,HB.out⟩
end Go.Proofs.YthnllikalobmeaaGreat
namespace Go.Proofs.YthnllikalobmeaaGreat
set_option linter.unusedVariables false
set_option linter.unusedSimpArgs false
set_option maxRecDepth 100000
set_option maxHeartbeats 8000000
open Go.RowKit
def cmpI (a b:Int):Int:=if a < b then -1 else if b < a then 1 else 0
def orI (a b:Int):Int:=if a = 0 then b else a
def cmpV (st r c st' r' c':Int):Int:=orI (cmpI st st') (orI (cmpI r r') (cmpI c c'))
theorem zno (a:Int) (w:World) :
   Calls Tryz.prog 177 #[.int .i64 a] w fun e w'=>e = .returned (.bool false) ∧ w = w':=by
 go_enter Tryz.func177,Tryz.ntmps177
 go_wp2
 go_ret
 exact ⟨zaa (by simp),rfl⟩
theorem zqr (a b:Int) (w:World) :
   Calls Tryz.prog 170 #[.int .i64 a,.int .i64 b] w fun e w'=>e = .returned (.int .i64 (cmpI a b)) ∧ w = w':=by
 have H:=fun a w=>y09h (zno a w)
 unfold cmpI
 by_cases h1:a < b <;> by_cases h2:b < a <;>
 first | (exfalso;omega) | (
   go_enter Tryz.func170,Tryz.ntmps170
   go_wp2_with (go_at_call 177;refine ((H _ _).out).mono ?_;rintro e w' ⟨rfl,rfl⟩)
   go_ret
   exact ⟨zbu (by simp [h1,h2]),rfl⟩ )
def zwc (a b c:Int) (i:Value):Prop:=i = .int .i64 0 ∨ (i = .int .i64 1 ∧ a = 0) ∨ (i = .int .i64 2 ∧ a = 0 ∧ b = 0) ∨ (i = .int .i64 3 ∧ a = 0 ∧ b = 0 ∧ c = 0)
theorem ztr (a b c:Int) (g:Nat) (w:World) (h0:w.cell? ⟨g,0,none⟩ = some (.int .i64 a)) (h1:w.cell? ⟨g,1,none⟩ = some (.int .i64 b)) (h2:w.cell? ⟨g,2,none⟩ = some (.int .i64 c)) :
   Calls Tryz.prog 169 #[.slice (some ⟨g,0,none⟩) 3 3] w fun e w'=>e = .returned (.int .i64 (orI a (orI b c))) ∧ w = w':=by
 go_enter Tryz.func169,Tryz.ntmps169
 go_wp2
 go_loop [5,8] (fun _ i=>zwc a b c i) (fun _ i=>4 - (intOf i).toNat)
 case atStart=>exact .inl rfl
 case round =>
   rcases hrel with rfl | ⟨rfl,h⟩ | ⟨rfl,h,h'⟩ | ⟨rfl,h,h',h''⟩
   · by_cases ha:a = 0
     · have e1:(a == 0) = true:=by simpa using ha
       have e2:(a != 0) = false:=by simpa using ha
       have E:=y09h ha
       clear ha
       go_wp2
       go_round
       case rel=>exact .inr (.inl ⟨by go_num,E.out⟩)
       case measure=>simp [intOf]
     · have e1:(a == 0) = false:=by simpa using ha
       have e2:(a != 0) = true:=by simpa using ha
       have E:=y09h ha
       clear ha
       go_wp2
       go_ret
       exact ⟨zbu (by unfold orI;rw [if_neg E.out]),rfl⟩
   · have H:=y09h h
     clear h
     by_cases ha:b = 0
     · have e1:(b == 0) = true:=by simpa using ha
       have e2:(b != 0) = false:=by simpa using ha
       have E:=y09h ha
       clear ha
       go_wp2
       go_round
       case rel=>exact .inr (.inr (.inl ⟨by go_num,H.out,E.out⟩))
       case measure=>simp [intOf]
     · have e1:(b == 0) = false:=by simpa using ha
       have e2:(b != 0) = true:=by simpa using ha
       have E:=y09h ha
       clear ha
       go_wp2
       go_ret
       exact ⟨zbu (by unfold orI;rw [if_pos H.out,if_neg E.out]),rfl⟩
   · have H:=y09h h
     have H':=y09h h'
     clear h h'
     by_cases ha:c = 0
     · have e1:(c == 0) = true:=by simpa using ha
       have e2:(c != 0) = false:=by simpa using ha
       have E:=y09h ha
       clear ha
       go_wp2
       go_round
       case rel=>exact .inr (.inr (.inr ⟨by go_num,H.out,H'.out,E.out⟩))
       case measure=>simp [intOf]
     · have e1:(c == 0) = false:=by simpa using ha
       have e2:(c != 0) = true:=by simpa using ha
       clear ha
       go_wp2
       go_ret
       exact ⟨zbu (by unfold orI;rw [if_pos H.out,if_pos H'.out]),rfl⟩
   · have H:=y09h h
     have H':=y09h h'
     have H'':=y09h h''
     clear h h' h''
     go_wp2
     go_ret
     exact ⟨zbu (by unfold orI;rw [if_pos H.out,if_pos H'.out,H''.out]),rfl⟩
theorem zk2 (id:ByteArray) (r c st:Int) (kd:ByteArray) (n:Int) (x y:Nat) (d:Bool) (id':ByteArray) (r' c' st':Int) (kd':ByteArray) (n':Int) (x' y':Nat) (d':Bool) (w:World) :
   Calls Tryz.prog 144 #[zd8 id r c st kd n x y d,zd8 id' r' c' st' kd' n' x' y' d'] w fun e w'=>e = .returned (.int .i64 (cmpV st r c st' r' c')) ∧ Below w.heap.size w w':=by
 have H:=fun a b w=>y09h (zqr a b w)
 have O:=fun a b c g w h0 h1 h2=>y09h (ztr a b c g w h0 h1 h2)
 go_enter Tryz.func144,Tryz.ntmps144
 go_wp2
 refine za1 19 (by kernel_rfl) (by kernel_rfl) ?_
 simp only [List.take_succ_cons,List.take_zero,List.drop_succ_cons,List.drop_zero]
 repeat (first | still_step | (refine wpStill_step (fun K hK=>?_);go_simp;refine ⟨_,zc3 (H _ _ _).out,hK _ ?_⟩;clear hK K))
 refine wpStill_nil ?_
 go_wp2_with fail
 refine (O (cmpI st st') (cmpI r r') (cmpI c c') _ _ ?_ ?_ ?_).out.mono ?_
 rotate_left 3
 · rintro e w' ⟨rfl,rfl⟩
   go_wp2
   go_ret
   exact ⟨rfl,((((Below.refl _ _).alloc (Nat.le_refl _) _).alloc (by simp) _).alloc (by simp;omega) _).drew⟩
 all_goals go_simp
theorem zlq (id:ByteArray) (r c st:Int) (kd:ByteArray) (n:Int) (x y:Nat) (d:Bool) (id':ByteArray) (r' c' st':Int) (kd':ByteArray) (n':Int) (x' y':Nat) (d':Bool) (w:World) :
   Calls Tryz.prog 105 #[zd8 id r c st kd n x y d,zd8 id' r' c' st' kd' n' x' y' d'] w fun e w'=>e = .returned (.bool (decide (cmpV st r c st' r' c' = 1))) ∧ Below w.heap.size w w':=by
 by_cases h1:st = st'
 · subst h1
   by_cases h2:r = r'
   · subst h2
     have e:cmpV st r c st r c' = cmpI c c':=by simp [cmpV,orI,cmpI]
     rw [e]
     clear e
     unfold cmpI
     by_cases h3:c' < c
     · have e:(if c < c' then (-1:Int) else if c' < c then 1 else 0) = 1:=by rw [if_neg (by omega),if_pos h3]
       rw [e];clear e
       go_enter Tryz.func105,Tryz.ntmps105
       go_wp2
       go_ret
       exact ⟨by simp,(((Below.refl _ _).alloc (Nat.le_refl _) _).alloc (by simp) _)⟩
     · have e:decide ((if c < c' then (-1:Int) else if c' < c then 1 else 0) = 1) = false:=by rw [if_neg h3];split <;> simp
       rw [e];clear e
       go_enter Tryz.func105,Tryz.ntmps105
       go_wp2
       go_ret
       exact ⟨by simp,(((Below.refl _ _).alloc (Nat.le_refl _) _).alloc (by simp) _)⟩
   · have e1:(r == r') = false:=by simpa using h2
     have e2:(r != r') = true:=by simpa using h2
     have e:decide (cmpV st r c st r' c' = 1) = decide (r' < r):=by
       rw [decide_eq_decide]
       simp only [cmpV,orI,cmpI]
       split <;> split <;> (try split) <;> simp_all <;> omega
     rw [e]
     clear e h2
     go_enter Tryz.func105,Tryz.ntmps105
     go_wp2
     go_ret
     exact ⟨by simp,(((Below.refl _ _).alloc (Nat.le_refl _) _).alloc (by simp) _)⟩
 · have e1:(st == st') = false:=by simpa using h1
   have e2:(st != st') = true:=by simpa using h1
   have e:decide (cmpV st r c st' r' c' = 1) = decide (st' < st):=by
     rw [decide_eq_decide]
     simp only [cmpV,orI,cmpI]
     split <;> (try split) <;> simp_all <;> omega
   rw [e]
   clear e h1
   go_enter Tryz.func105,Tryz.ntmps105
   go_wp2
   go_ret
   exact ⟨by simp,(((Below.refl _ _).alloc (Nat.le_refl _) _).alloc (by simp) _)⟩
theorem zwm (a0 a1 a2 a3 a4 a5 a6 a7 b0 b1 b2 b3 b4 b5 b6 b7:Int) (w:World):(Op.equalIn 10000 28 (.agg #[.int .i64 a0,.int .i64 a1,.int .i64 a2,.int .i64 a3,.int .i64 a4,.int .i64 a5,.int .i64 a6,.int .i64 a7]) (.agg #[.int .i64 b0,.int .i64 b1,.int .i64 b2,.int .i64 b3,.int .i64 b4,.int .i64 b5,.int .i64 b6,.int .i64 b7])).run Tryz.prog w = .ok (a0 == b0 && (a1 == b1 && (a2 == b2 && (a3 == b3 && (a4 == b4 && (a5 == b5 && (a6 == b6 && (a7 == b7)))))))) w:=by
 have ju:=Tryz.underlying3
 have ja:=Tryz.isAgg3
 have jz:=Tryz.sizeOf3
 rw [show (10000:Nat) = 9999 + 1 from rfl,Op.equalIn]
 simp only [Sem.run_bind,run_underlying Tryz.underlying28,Result.andThen_ok]
 simp only [Std.Legacy.Range.forIn_eq_forIn_range',Std.Legacy.Range.size,Nat.sub_zero,Nat.add_sub_cancel,Nat.div_one,List.range'_succ,List.range'_zero,List.forIn_cons,List.forIn_nil]
 go_simp
 by_cases h0:a0 = b0
 case neg=>simp [h0]
 by_cases h1:a1 = b1
 case neg=>simp [h0,h1]
 by_cases h2:a2 = b2
 case neg=>simp [h0,h1,h2]
 by_cases h3:a3 = b3
 case neg=>simp [h0,h1,h2,h3]
 by_cases h4:a4 = b4
 case neg=>simp [h0,h1,h2,h3,h4]
 by_cases h5:a5 = b5
 case neg=>simp [h0,h1,h2,h3,h4,h5]
 by_cases h6:a6 = b6
 case neg=>simp [h0,h1,h2,h3,h4,h5,h6]
 by_cases h7:a7 = b7
 case neg=>simp [h0,h1,h2,h3,h4,h5,h6,h7]
 simp [h0,h1,h2,h3,h4,h5,h6,h7]
theorem zff (A B:Nat → Int) (w:World):(Op.equalIn 10000 28 (vecV A) (vecV B)).run Tryz.prog w = .ok (eqV A B) w:=by
 have e:eqV A B = (A 0 == B 0 && (A 1 == B 1 && (A 2 == B 2 && (A 3 == B 3 && (A 4 == B 4 && (A 5 == B 5 && (A 6 == B 6 && A 7 == B 7))))))):=by
   unfold eqV
   simp [List.range_succ,Bool.and_assoc]
 rw [e]
 exact zwm _ _ _ _ _ _ _ _ _ _ _ _ _ _ _ _ w
end Go.Proofs.YthnllikalobmeaaGreat
namespace Go.Proofs.YthnllikalobmeaaGreat
set_option linter.unusedVariables false
set_option linter.unusedSimpArgs false
set_option maxRecDepth 100000
set_option maxHeartbeats 8000000
namespace Pr
def leaf (op:Int):Pr:=node op ⟨#[]⟩ 0 0 0 []
def flat (op:Int):List Pr → List Pr
 | []=>[]
 | k :: l=>(if k.op = op then k.kids else [k]) ++ flat op l
def zx6 (l:List Pr) (a:Pr):Bool:=l.any fun b=>same b a
def zmo (no:Int):List Pr → List Pr → List Pr
 | _,[]=>[]
 | pre,a :: l=>(if zx6 pre a = true ∨ a.op = no then [] else [a]) ++ zmo no (pre ++ [a]) l
def keep (no:Int) (l:List Pr):List Pr:=zmo no [] l
def noOf (op:Int):Int:=if op = 9 then 2 else 1
def zx0 (o:Int) (l:List Pr):Bool:=l.any fun b=>decide (b.op = o)
def zx4 (op:Int) (t:ByteArray) (n:Int) (x y:Nat):List Pr → Pr
 | []=>leaf (noOf op)
 | [a]=>a
 | l=>node op t n x y l
def glue (op:Int) (t:ByteArray) (n:Int) (x y:Nat) (ks:List Pr):Pr :=
 if zx0 (3 - noOf op) (flat op ks) = true then leaf (3 - noOf op) else zx4 op t n x y (keep (noOf op) (flat op ks))
def turn (t:ByteArray) (n:Int) (x y:Nat):List Pr → Pr
 | [k]=>if k.op = 1 ∨ k.op = 2 then leaf (3 - k.op) else if k.op = 10 then k.kids.headD (leaf 0) else node 10 t n x y [k]
 | _=>node 10 t n x y []
def zwr (op:Int) (t:ByteArray) (n:Int) (x y:Nat) (ks:List Pr):Pr :=
 if op = 10 then turn t n x y ks else if op = 8 ∨ op = 9 then glue op t n x y ks else node op t n x y []
mutual
def plain:Pr → Pr | node op t n x y k=>zwr op t n x y (zru k)
def zru:List Pr → List Pr | []=>[] | k :: l=>plain k :: zru l
end
end Pr
end Go.Proofs.YthnllikalobmeaaGreat
