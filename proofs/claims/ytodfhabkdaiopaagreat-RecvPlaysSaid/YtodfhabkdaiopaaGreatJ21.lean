/- Joined: KText, KGreat, RegE, Stock. -/
import Derived.Test.YtodfhabkdaiopaaGreatJ06
import Derived.Test.YtodfhabkdaiopaaGreatJ07
import Derived.Test.YtodfhabkdaiopaaGreatJ05
import Derived.Test.YtodfhabkdaiopaaGreatJ20
import Derived.Test.YtodfhabkdaiopaaGreatJ03
import Derived.Test.YtodfhabkdaiopaaGreatJ09
import Derived.Deep.RegionHeld
import Derived.Test.YtodfhabkdaiopaaGreatJ17
import Derived.Test.YtodfhabkdaiopaaGreatJ11
import Derived.Test.YtodfhabkdaiopaaGreatJ01
namespace Go.Proofs.YtodfhabkdaiopaaGreat
set_option linter.unusedVariables false
set_option linter.unusedSimpArgs false
set_option maxRecDepth 100000
set_option maxHeartbeats 8000000
open Go.RowKit
theorem y21h {p:Prop} (h:p):Go.RowKit.Hid p:=Lib.hid h
theorem zke {l:List ByteArray} {k:Nat} {s x:ByteArray} (hx:l[k]?=some x) (h:za6 (l.take k) s=false) (hs:(s.toList == x.toList)=false):za6 (l.take (k + 1)) s=false:=by
 rw [zej hx]
 unfold za6 at *
 rw [List.any_append,h]
 simp only [List.any_cons,List.any_nil,Bool.or_false,Bool.false_or]
 rw [tl_ne] at hs ⊢
 exact fun e=>hs e.symm
theorem zlo {l:List ByteArray} {k:Nat} {s x:ByteArray} (hx:l[k]?=some x) (hs:(s.toList == x.toList)=true):za6 l s=true:=by
 rw [tl_eq] at hs;subst hs
 exact among_iff.2 (List.mem_of_getElem? hx)
def zx8 (l:List ByteArray) (s:ByteArray) (n:Nat) (w0:World) (i:Value) (wr:World):Prop:=∃ k:Nat,k≤n∧i=.int .i64 k∧Hid (za6 (l.take k) s=false)∧Hid (w0=wr)
theorem zog (l:List ByteArray) (v:Value) (s:ByteArray) (w:World) (hT:TxW w l v) :
   Calls Tryz.prog 183 #[v,.string s] w fun e w'=>∃ n:Int,e=.returned (.int .i64 n)∧decide (0≤n)=za6 l s∧w'=w:=by
 obtain ⟨oa,cap,b,o,rfl,hT⟩:=hT
 have h1:=hT.len
 have h2:=hT.max
 unfold maxLen at h2
 have HT:=y21h hT
 clear hT
 generalize hn:l.length=n at *
 have HN:=y21h hn
 clear hn
 go_enter Tryz.func183,Tryz.ntmps183
 go_wp2_with fail
 go_loopw [8] (fun i wr=>zx8 l s n w i wr) (fun i _=>n - (intOf i).toNat)
 case atStart=>exact ⟨0,Nat.zero_le _,rfl,by simp [Hid,za6],rfl⟩
 case round =>
   obtain ⟨k,hk,rfl,HS,hw⟩:=hrel
   have ew:=hw.out
   subst ew
   clear hw
   by_cases hlt:k < n
   · obtain ⟨x,hx⟩:∃ x,l[k]?=some x:=⟨_,List.getElem?_eq_getElem (by rw [HN.out];exact hlt)⟩
     obtain ⟨rfl,hb⟩:=HT.out.at0 (by rw [HN.out];omega)
     have c0:=HT.out.cell k x hx
     cases hs:(s.toList == x.toList)
     · have HF:=y21h (zke hx HS.out hs)
       clear HS
       go_wp2_with fail
       go_roundw
       case rel=>exact ⟨k + 1,by omega,by go_num,HF,rfl⟩
       case measure=>simp [intOf];omega
     · have HF:=y21h (zlo hx hs)
       clear HS
       go_wp2_with fail
       go_ret
       exact ⟨_,rfl,by rw [HF.out];simp,rfl⟩
   · have h:=HS.out
     rw [List.take_of_length_le (by rw [HN.out];omega)] at h
     have HF:=y21h h
     clear h HS
     go_wp2_with fail
     go_ret
     exact ⟨_,rfl,by rw [HF.out];simp,rfl⟩
theorem zkl (l:List ByteArray) (v:Value) (s:ByteArray) (w:World) (hT:TxW w l v) :
   Calls Tryz.prog 126 #[v,.string s] w fun e w'=>e=.returned (.bool (za6 l s))∧w'=w:=by
 have C:=y21h (zog l v s w hT)
 obtain ⟨oa,cap,rfl⟩:=hT.val
 clear hT
 go_enter Tryz.func126,Tryz.ntmps126
 go_wp2_with (go_at_call 183;refine C.out.mono ?_;rintro e w' ⟨n,rfl,hn,rfl⟩)
 go_ret
 first | exact ⟨zac hn,rfl⟩ | exact ⟨rfl,rfl⟩
end Go.Proofs.YtodfhabkdaiopaaGreat
namespace Go.Proofs.YtodfhabkdaiopaaGreat
set_option linter.unusedVariables false
set_option linter.unusedSimpArgs false
set_option maxRecDepth 100000
set_option maxHeartbeats 8000000
open Go.RowKit Go.Maps
def rawJ (l:List Fr) (f:Fr) (j:Nat) (s:ByteArray):Nat→Int:=if za6 (f.ids.take j) s=true then maxV (rawF l s) f.v else rawF l s
theorem zuq (l:List Fr) (f:Fr):rawJ l f 0=rawF l:=by
 funext s;simp [rawJ,za6]
theorem zwt (l:List Fr) {f:Fr} {k:Nat} (hf:l[k]?=some f):rawJ (l.take k) f f.ids.length=rawF (l.take (k + 1)):=by
 funext s
 rw [zej hf]
 simp [rawJ,rawF,List.foldl_append,zcf]
theorem zua (A B:Nat→Int):maxV (maxV A B) B=maxV A B:=funext fun j=>zwc A B j
theorem zup (l:List Fr) (f:Fr) {j:Nat} {s:ByteArray} (hs:f.ids[j]?=some s):(fun x=>if x=s then maxV (rawJ l f j s) f.v else rawJ l f j x)=rawJ l f (j + 1):=by
 funext x
 unfold rawJ
 rw [zej hs]
 by_cases e:x=s
 · subst e
   have h1:za6 (f.ids.take j ++ [x]) x=true:=among_iff.2 (by simp)
   rw [if_pos rfl,h1,if_pos rfl]
   split
   · exact zua _ _
   · rfl
 · rw [if_neg e]
   have h1:za6 (f.ids.take j ++ [s]) x=za6 (f.ids.take j) x:=by
     cases h:za6 (f.ids.take j) x with
     | true=>exact among_iff.2 (by simp [among_iff.1 h])
     | false =>
       cases h':za6 (f.ids.take j ++ [s]) x with
       | false=>rfl
       | true =>
         have:=among_iff.1 h'
         simp [e] at this
         rw [among_iff.2 this] at h;cases h
   rw [h1]
theorem zkq {l:List Fr} {k:Nat} {f:Fr} (hf:l[k]?=some f):zaf (l.take (k + 1))=zaf (l.take k) ++ f.ids:=by
 rw [zej hf];simp [zaf]
theorem ztp {l:List Fr} {k:Nat}:(zaf (l.take k)).length≤(zaf l).length:=by
 unfold zaf
 conv=>rhs;rw [← List.take_append_drop k l]
 rw [List.flatMap_append,List.length_append];omega
def zxt (l:List Fr) (n:Nat) (w0:World) (i:Value) (wr:World):Prop :=
 ∃ k:Nat,k≤n∧i=.int .i64 k∧Hid (Cnt wr w0.heap.size (zaf (l.take k)).length (zaf (l.take k)) (rawF (l.take k)))∧Hid (Below w0.heap.size w0 wr)
def zxs (lk:List Fr) (f:Fr) (n:Nat) (w0:World) (X:Array Value) (bf:Nat) (i:Value) (wr:World):Prop :=
 ∃ j:Nat,j≤n∧i=.int .i64 j∧Hid (Cnt wr w0.heap.size ((zaf lk).length + j) (zaf lk ++ f.ids.take j) (rawJ lk f j))∧Hid (Own wr bf X 162)∧Hid (Below w0.heap.size w0 wr)
theorem zls (l:List Fr) (v:Value) (w:World) (hR:FrW w l v) (hlen:(zaf l).length≤10000) :
   Calls Tryz.prog 199 #[v] w fun e w'=>e=.returned (.map (some w.heap.size))∧Cnt w' w.heap.size (zaf l).length (zaf l) (rawF l)∧Below w.heap.size w w':=by
 obtain ⟨U,oa,cap,bl,o,rfl,hF⟩:=hR
 have hc1:=hF.len
 have hc2:=hF.max
 unfold maxLen at hc2
 have HF:=y21h hF
 clear hF
 have hmm:=@run_makeMap Tryz.prog
 have I0:zxt l l.length w (.int .i64 0) (w.alloc (.map #[] 0)):=⟨0,Nat.zero_le _,rfl,by rw [List.take_zero];exact y21h (Cnt.made w),y21h ((Below.refl _ _).alloc (Nat.le_refl _) _)⟩
 have HI:=y21h I0
 clear I0
 generalize hn:l.length=n at *
 have HN:=y21h hn
 clear hn
 go_enter Tryz.func199,Tryz.ntmps199
 go_wp2_with fail
 go_loopw [11] (fun i wr=>zxt l n w i wr) (fun i _=>n - (intOf i).toNat)
 case atStart=>exact HI.out
 case round =>
   clear HI
   obtain ⟨k,hk,rfl,HC,HB⟩:=hrel
   by_cases hlt:k < n
   · obtain ⟨f,hf⟩:∃ f,l[k]?=some f:=⟨_,List.getElem?_eq_getElem (by rw [HN.out];exact hlt)⟩
     have hat:=HF.out.at0 (by rw [HN.out];omega)
     obtain ⟨rfl,hbl⟩:=hat
     have FL:=HF.out.later HB.out (Nat.le_refl _)
     obtain ⟨c0,c1,c2,c3,c4,c5,c6,c7,c8⟩:=zb6 (w:=wr) (fun j u hu=>FL.cell k f hf j u hu)
     have zl:bl < wr.heap.size:=Nat.lt_of_lt_of_le hbl HB.out.size
     obtain ⟨ob,cb,b',o',hU,hT⟩:=HF.out.ids k f hf
     have ht1:=hT.len
     have ht2:=hT.max
     unfold maxLen at ht2
     have HT:=y21h hT
     have HL:=y21h (show (zaf (l.take k)).length + f.ids.length≤10000 by
       have h1:=ztp (l:=l) (k:=k + 1)
       rw [zkq hf,List.length_append] at h1
       omega)
     have HJ0:=y21h (zuq (l.take k) f)
     have HJ1:=y21h (zwt l hf)
     have HJ2:=y21h (zkq hf)
     rw [hU] at c0
     clear FL hT hf
     generalize hk1:l.take (k + 1)=lk1 at *
     have HK1:=y21h hk1
     have hkn:=y21h hlt
     clear hk1
     generalize l.take k=lk at *
     have CA:=HC.out.later ((Below.refl _ wr).alloc (Nat.le_refl _) (.cells #[.slice ob f.ids.length cb,.int .i64 (f.v 0),.int .i64 (f.v 1),.int .i64 (f.v 2),.int .i64 (f.v 3),.int .i64 (f.v 4),.int .i64 (f.v 5),.int .i64 (f.v 6),.int .i64 (f.v 7)] 162))
     have J0:zxs lk f f.ids.length w #[.slice ob f.ids.length cb,.int .i64 (f.v 0),.int .i64 (f.v 1),.int .i64 (f.v 2),.int .i64 (f.v 3),.int .i64 (f.v 4),.int .i64 (f.v 5),.int .i64 (f.v 6),.int .i64 (f.v 7)] wr.heap.size (.int .i64 0) (wr.alloc (.cells #[.slice ob f.ids.length cb,.int .i64 (f.v 0),.int .i64 (f.v 1),.int .i64 (f.v 2),.int .i64 (f.v 3),.int .i64 (f.v 4),.int .i64 (f.v 5),.int .i64 (f.v 6),.int .i64 (f.v 7)] 162)) :=
       ⟨0,Nat.zero_le _,rfl,by rw [HJ0.out,List.take_zero,List.append_nil];exact y21h CA,y21h (Own.new _ _ _),y21h (HB.out.alloc HB.out.size _)⟩
     have HJ:=y21h J0
     have HC0:=HC.out.lt
     clear J0 CA HC HJ0
     have hbf:w.heap.size < wr.heap.size:=HC0
     generalize hm:f.ids.length=m at *
     have HM:=y21h hm
     clear hm
     go_upto_block 2 with fail
     clear c0 c1 c2 c3 c4 c5 c6 c7 c8 hlt zl hbl
     generalize wr.heap.size=bf at *
     go_wp2_with fail
     go_loopw [18] (fun i wr=>zxs lk f m w #[.slice ob m cb,.int .i64 (f.v 0),.int .i64 (f.v 1),.int .i64 (f.v 2),.int .i64 (f.v 3),.int .i64 (f.v 4),.int .i64 (f.v 5),.int .i64 (f.v 6),.int .i64 (f.v 7)] bf i wr) (fun i _=>m - (intOf i).toNat)
     case atStart=>exact HJ.out
     case round =>
       clear HJ HB
       obtain ⟨j,hj,rfl,HC,HO,HB⟩:=hrel
       by_cases hlt:j < m
       · obtain ⟨s,hs⟩:∃ s,f.ids[j]?=some s:=⟨_,List.getElem?_eq_getElem (by rw [HM.out];exact hlt)⟩
         obtain ⟨rfl,hbt⟩:=HT.out.at0 (by rw [HM.out];omega)
         have cs:=(HT.out.later HB.out (Nat.le_refl _)).cell j s hs
         have zt:b' < wr.heap.size:=Nat.lt_of_lt_of_le hbt HB.out.size
         have hsz:=HT.out.ok s (List.mem_of_getElem? hs)
         have hlk:=HC.out.look hsz
         have lo:=HO.out.cell
         have zo:=HO.out.lt
         have HS:=y21h (zup lk f hs)
         have HT2:=y21h (zej hs)
         have hnn:(zaf lk).length + j < maxLen:=by have:=HL.out;unfold maxLen;omega
         have CM:=fun w'=>y21h (zpi (rawJ lk f j s) f.v w')
         have PUT:=fun w' (h3:Below wr.heap.size wr w')=>(HC.out.later h3).put hsz hnn (maxV (rawJ lk f j s) f.v)
         have PP:=y21h PUT
         have HZ:=y21h hsz
         clear hs hsz hbt PUT
         go_wp2_with (go_at_call 223;refine (CM _).out.mono ?_;rintro e w3 ⟨rfl,hb3⟩;obtain ⟨w4,hput,hc4,hg4⟩:=PP.out w3 hb3)
         have B4:=y21h ((HB.out.trans (hb3.mono HB.out.size)).grown hg4 (by have:=hb3.size;have:=HB.out.size;omega) (fun q hq=>by cases hq;exact Nat.le_refl _))
         have O4:=y21h ((HO.out.later hb3).grown hg4 (by simp;omega))
         go_roundw
         case rel=>exact ⟨j + 1,by omega,by go_num,by rw [HT2.out,← HS.out,← List.append_assoc];exact y21h hc4,O4,B4⟩
         case measure=>simp [intOf];omega
       · have e:j=m:=by omega
         subst e
         have HC2:=y21h (show Cnt wr w.heap.size (zaf lk1).length (zaf lk1) (rawF lk1) by
           have h:=HC.out
           rw [HJ1.out,← HM.out,List.take_length,← List.length_append,← HJ2.out] at h
           exact h)
         have hkn':=hkn.out
         go_wp2_with fail
         go_roundw
         case rel=>exact ⟨k + 1,by omega,by go_num,by rw [HK1.out];exact HC2,HB⟩
         case measure=>simp [intOf];omega
   · have e:k=n:=by omega
     have h:=HC.out
     rw [List.take_of_length_le (by rw [HN.out];omega)] at h
     have H7:=y21h h
     clear h e
     go_wp2_with fail
     go_ret
     exact ⟨rfl,H7.out,HB.out⟩
end Go.Proofs.YtodfhabkdaiopaaGreat
namespace Go.Proofs.YtodfhabkdaiopaaGreat
set_option linter.unusedVariables false
set_option linter.unusedSimpArgs false
set_option maxRecDepth 100000
set_option maxHeartbeats 8000000
open Go
section
variable {P:Program} {ops:Array Oper} {Q:Exit→Act→World→Prop} {md:Region.Mode} {S T:World→Prop} {D:Nat→Bool}
def zc2 (P:Program) (md:Region.Mode) (ops:Array Oper) (Q:Exit→Act→World→Prop) (S T:World→Prop) (D:Nat→Bool) (fuel:Nat) (listed:Array Bool) (a:Act) (w:World):Prop :=
 match fuel with
 | 0=>Region.ready md ops listed=[]∧Q .normal a w
 | n + 1=>(Region.ready md ops listed=[]→Q .normal a w)∧∀ i∈Region.ready md ops listed,
     wpOp P ops Q i (fun a' w'=>(D i=false→S w→S w')∧(T w→T w')∧zc2 P md ops Q S T D n (listed.setIfInBounds i true) a' w') a w
theorem zt3:∀ (n:Nat) {l:Array Bool} {a:Act} {w:World},zc2 P md ops Q S T D n l a w→wpAny P md ops Q n l a w:=by
 intro n
 induction n with
 | zero=>intro l a w h;exact h
 | succ n ih=>intro l a w h;exact ⟨h.1,fun i hi=>wpOp_mono (fun a' w' hk=>ih hk.2.2) (h.2 i hi)⟩
theorem zp3 {i:Nat} {oi:Oper} {v:Value} (hi:ops[i]?=some oi) (hsel:∀ (j:Nat) (o:Oper) cs b,ops[j]?=some o→o.op ≠ .select cs b) (hQ:∀ c a w,Q (.panic c) (a.put oi.dst v) w→Q (.panic c) a w) (hW:zlm md ops D i=true) :
   ∀ (n:Nat) {l:Array Bool} {a:Act} {w:World},(∀ j oj,ops[j]?=some oj→j ≠ i→l.getD j true=false→(∀ e∈oj.after,Region.binds md e=true→e.on ≠ i)→oi.apart ops oj=true) →
     i∈Region.ready md ops l→YieldsIf P ops S oi v a→S w→zc2 P md ops Q S T D n (l.setIfInBounds i true) (a.put oi.dst v) w→zc2 P md ops Q S T D (n + 1) l a w:=by
 intro n
 induction n with
 | zero =>
   intro l a w _ hr hy hS H
   refine ⟨fun h=>(by rw [h] at hr;cases hr),fun j hj=>?_⟩
   rcases Decidable.em (j=i) with e | e
   · subst e;exact hy.wpOp hi hS ⟨fun _ h=>h,fun h=>h,H⟩
   · have hm:=ready_mono hj e
     rw [H.1] at hm;cases hm
 | succ n ih =>
   intro l a w hfree hr hy hS H
   refine ⟨fun h=>(by rw [h] at hr;cases hr),fun j hj=>?_⟩
   rcases Decidable.em (j=i) with e | e
   · subst e;exact hy.wpOp hi hS ⟨fun _ h=>h,fun h=>h,H⟩
   · obtain ⟨hun,oj,hoj,hall⟩:=mem_ready.1 hj
     have hli:=(mem_ready.1 hr).1
     have hDj:=zq9 hW hj hoj hli
     have hno:∀ k∈oj.after,Region.binds md k=true→k.on ≠ i:=by
       intro k hk hb hki
       have h1:=hall k hk hb
       rw [hki] at h1
       rcases Nat.lt_or_ge i l.size with hl | hl
       · simp [hl] at hli h1;rw [hli] at h1;cases h1
       · simp [Array.getElem?_eq_none hl] at hli
     have hstep:=wpOp_putIf hoj (hfree j oj hoj e hun hno) (fun cs b=>hsel i oi cs b hi) (fun cs b=>hsel j oj cs b hoj) hQ hy (H.2 j (ready_mono hj e))
     refine wpOp_mono (fun a' w' hk=>⟨hk.2.1,hk.2.2.1,ih ?_ (ready_mono hr (Ne.symm e)) hk.1 (hk.2.1 hDj hS) ?_⟩) hstep
     · intro k ok hok hki hku hkno
       refine hfree k ok hok hki ?_ hkno
       rcases Decidable.em (j=k) with ejk | ejk
       · subst ejk;exact hun
       · rw [getD_set_ne true ejk] at hku;exact hku
     · rw [Array.setIfInBounds_comm _ _ e];exact hk.2.2.2
theorem zon {i:Nat} {oi:Oper} {v:Value} (hi:ops[i]?=some oi) (hsel:∀ (j:Nat) (o:Oper) cs b,ops[j]?=some o→o.op ≠ .select cs b) (hQ:∀ c a w,Q (.panic c) (a.put oi.dst v) w→Q (.panic c) a w) :
   ∀ (n:Nat) {l:Array Bool} {a:Act} {w:World},(∀ j oj,ops[j]?=some oj→j ≠ i→l.getD j true=false→(∀ e∈oj.after,Region.binds md e=true→e.on ≠ i)→oi.apart ops oj=true) →
     i∈Region.ready md ops l→YieldsIf P ops T oi v a→T w→zc2 P md ops Q S T D n (l.setIfInBounds i true) (a.put oi.dst v) w→zc2 P md ops Q S T D (n + 1) l a w:=by
 intro n
 induction n with
 | zero =>
   intro l a w _ hr hy hT H
   refine ⟨fun h=>(by rw [h] at hr;cases hr),fun j hj=>?_⟩
   rcases Decidable.em (j=i) with e | e
   · subst e;exact hy.wpOp hi hT ⟨fun _ h=>h,fun h=>h,H⟩
   · have hm:=ready_mono hj e
     rw [H.1] at hm;cases hm
 | succ n ih =>
   intro l a w hfree hr hy hT H
   refine ⟨fun h=>(by rw [h] at hr;cases hr),fun j hj=>?_⟩
   rcases Decidable.em (j=i) with e | e
   · subst e;exact hy.wpOp hi hT ⟨fun _ h=>h,fun h=>h,H⟩
   · obtain ⟨hun,oj,hoj,hall⟩:=mem_ready.1 hj
     have hli:=(mem_ready.1 hr).1
     have hno:∀ k∈oj.after,Region.binds md k=true→k.on ≠ i:=by
       intro k hk hb hki
       have h1:=hall k hk hb
       rw [hki] at h1
       rcases Nat.lt_or_ge i l.size with hl | hl
       · simp [hl] at hli h1;rw [hli] at h1;cases h1
       · simp [Array.getElem?_eq_none hl] at hli
     have hstep:=wpOp_putIf hoj (hfree j oj hoj e hun hno) (fun cs b=>hsel i oi cs b hi) (fun cs b=>hsel j oj cs b hoj) hQ hy (H.2 j (ready_mono hj e))
     refine wpOp_mono (fun a' w' hk=>⟨hk.2.1,hk.2.2.1,ih ?_ (ready_mono hr (Ne.symm e)) hk.1 (hk.2.2.1 hT) ?_⟩) hstep
     · intro k ok hok hki hku hkno
       refine hfree k ok hok hki ?_ hkno
       rcases Decidable.em (j=k) with ejk | ejk
       · subst ejk;exact hun
       · rw [getD_set_ne true ejk] at hku;exact hku
     · rw [Array.setIfInBounds_comm _ _ e];exact hk.2.2.2
theorem zeg {i:Nat} {oi:Oper} {v:Value} {n:Nat} {l:Array Bool} {a:Act} {w:World} (hi:ops[i]?=some oi) (hs:Region.noSelect ops=true) (hf:Region.free md ops l i=true) (hr:(Region.ready md ops l).contains i=true) (hW:zlm md ops D i=true)
   (hQ:∀ c a w,Q (.panic c) (a.put oi.dst v) w→Q (.panic c) a w) (hy:YieldsIf P ops S oi v a) (hS:S w) (h:zc2 P md ops Q S T D n (l.setIfInBounds i true) (a.put oi.dst v) w):zc2 P md ops Q S T D (n + 1) l a w :=
 zp3 hi (Region.noSelect_spec hs) hQ hW n (Region.free_spec hi hf) (by simpa using hr) hy hS h
theorem zaj {i:Nat} {oi:Oper} {v:Value} {n:Nat} {l:Array Bool} {a:Act} {w:World} (hi:ops[i]?=some oi) (hs:Region.noSelect ops=true) (hf:Region.free md ops l i=true) (hr:(Region.ready md ops l).contains i=true)
   (hQ:∀ c a w,Q (.panic c) (a.put oi.dst v) w→Q (.panic c) a w) (hy:YieldsIf P ops T oi v a) (hT:T w) (h:zc2 P md ops Q S T D n (l.setIfInBounds i true) (a.put oi.dst v) w):zc2 P md ops Q S T D (n + 1) l a w :=
 zon hi (Region.noSelect_spec hs) hQ n (Region.free_spec hi hf) (by simpa using hr) hy hT h
theorem za7 {i:Nat} {o:Oper} {n:Nat} {l:Array Bool} {a:Act} {w:World} (hr:Region.ready md ops l=[i]) (ho:ops[i]?=some o)
   (h:∀ K:Act→World→Prop,Shut (∀ a w,(D i=false→S w)→T w→((D i=false→S w)→T w→zc2 P md ops Q S T D n (l.setIfInBounds i true) a w)→K a w)→if Region.wanted o (yielded ops a.tmps)=true then Oper.wp P o a w K Q else K (a.put o.dst undef) w) :
   zc2 P md ops Q S T D (n + 1) l a w:=by
 refine ⟨fun h0=>(by rw [hr] at h0;cases h0),fun j hj=>?_⟩
 rw [hr] at hj
 have e:j=i:=by simpa using hj
 subst e
 exact wpOp_step ho (fun K hK=>h K (fun a w h1 h2 h3=>hK a w ⟨fun hd _=>h1 hd,fun _=>h2,h3 h1 h2⟩))
theorem zef {l:Array Bool} {a:Act} {w:World} (hr:Region.ready md ops l=[]) (h:Q .normal a w):∀ n,zc2 P md ops Q S T D n l a w
 | 0=>⟨hr,h⟩
 | _ + 1=>⟨fun _=>h,by rw [hr];simp⟩
theorem zdx {id:Nat} {a:Act} {w:World} (hm:P.follows .mixedOrders=true) (hS:S w.drew) (hT:T w.drew) (h:S w.drew→T w.drew→zc2 P .any ops Q S T D ops.size (Array.replicate ops.size false) a w.drew):(Code.region id ops true).wp P Q a w :=
 wp_region_any hm (zt3 _ (h hS hT))
end
end Go.Proofs.YtodfhabkdaiopaaGreat
namespace Go.Proofs.YtodfhabkdaiopaaGreat
set_option linter.unusedVariables false
set_option linter.unusedSimpArgs false
set_option maxRecDepth 100000
set_option maxHeartbeats 8000000
open Go.RowKit
def zaz (V:Nat→Value):Nat→List Pr→List Value
 | _,[]=>[]
 | s,p :: l=>pc p (V s) ++ zaz V (s + 1) l
theorem zid (p:Pr) (v:Value):(pc p v).length=5:=rfl
theorem zow (V:Nat→Value) (s:Nat) (l:List Pr):(zaz V s l).length=l.length * 5:=by
 induction l generalizing s with
 | nil=>rfl
 | cons p l ih=>simp only [zaz,List.length_append,ih,zid,List.length_cons];omega
theorem zfn (V:Nat→Value) (s:Nat) (l:List Pr) (i:Nat) (p:Pr) (hp:l[i]?=some p) (j:Nat) (hj:j < 5):(zaz V s l)[i * 5 + j]?=(pc p (V (s + i)))[j]?:=by
 induction l generalizing s i with
 | nil=>simp at hp
 | cons q l ih =>
   cases i with
   | zero =>
     simp at hp;subst hp
     simp only [zaz,Nat.zero_mul,Nat.zero_add,Nat.add_zero]
     rw [List.getElem?_append_left (by rw [zid];exact hj)]
   | succ i =>
     simp at hp
     simp only [zaz]
     rw [List.getElem?_append_right (by rw [zid];omega),zid,show (i + 1) * 5 + j - 5=i * 5 + j by omega,ih (s + 1) i hp,show s + 1 + i=s + (i + 1) by omega]
theorem zwk {V:Nat→Value} {s:Nat} {l:List Pr} (h:∀ i p,l[i]?=some p→(V (s + i)).oneCell'=true):∀ u∈zaz V s l,u.oneCell'=true:=by
 induction l generalizing s with
 | nil=>simp [zaz]
 | cons p l ih =>
   intro u hu
   simp only [zaz,List.mem_append] at hu
   rcases hu with hu | hu
   · exact zuk (h 0 p rfl) u hu
   · exact ih (s:=s + 1) (fun i q hq=>by have:=h (i + 1) q (by simpa using hq);rwa [show s + 1 + i=s + (i + 1) by omega]) u hu
theorem zg5 {V W:Nat→Value} {s s':Nat} {l:List Pr} (h:∀ i,i < l.length→V (s + i)=W (s' + i)):zaz V s l=zaz W s' l:=by
 induction l generalizing s s' with
 | nil=>rfl
 | cons p l ih =>
   simp only [zaz]
   rw [show V s=W s' from h 0 (by simp),ih (fun i hi=>by have:=h (i + 1) (by simp;omega);rwa [show s + (i + 1)=s + 1 + i by omega,show s' + (i + 1)=s' + 1 + i by omega] at this)]
theorem zwj (V:Nat→Value) (s:Nat) (l m:List Pr):zaz V s (l ++ m)=zaz V s l ++ zaz V (s + l.length) m:=by
 induction l generalizing s with
 | nil=>simp [zaz]
 | cons p l ih=>simp only [List.cons_append,zaz,ih,List.append_assoc,List.length_cons];rw [show s + 1 + l.length=s + (l.length + 1) by omega]
def zfa (n:Nat) (V W:Nat→Value):Nat→Value:=fun i=>if i < n then V i else W (i - n)
theorem zuf (V W:Nat→Value) (l m:List Pr):zaz V 0 l ++ zaz W 0 m=zaz (zfa l.length V W) 0 (l ++ m):=by
 rw [zwj]
 congr 1
 · exact zg5 fun i hi=>by simp [zfa,hi]
 · refine zg5 fun i hi=>?_
   simp only [zfa,Nat.zero_add]
   rw [if_neg (by omega),show l.length + i - l.length=i by omega]
def PRow (w:World) (base:Nat) (S:Nat→Prop) (l:List Pr) (v:Value) (V:Nat→Value):Prop :=
 w.ownsRow base 32 5 v l.length (zaz V 0 l)∧∀ i p,l[i]?=some p→Lies 5 pc S w p (V i)
structure Rw where
 l:List Pr
 v:Value
 V:Nat→Value
def Rw.nil:Rw:=⟨[],.slice .none 0 0,fun _=>.nilFunc⟩
def Sof (w:World) (base:Nat) (R:Nat→Rw) (b:Nat):Prop:=base≤b∧b < w.heap.size∧∀ i,some b ≠ (R i).v.ownBlock
structure Stock (w:World) (base:Nat) (R:Nat→Rw):Prop where
 row:∀ i,PRow w base (Sof w base R) (R i).l (R i).v (R i).V
 apart:∀ i j,i ≠ j→(R i).v.ownBlock=none ∨ (R i).v.ownBlock ≠ (R j).v.ownBlock
theorem Stock.kept {w w':World} {base:Nat} {R:Nat→Rw} (h:Stock w base R) (hb:∀ b,base≤b→b < w.heap.size→w'.heap[b]?=w.heap[b]?) (hs:w.heap.size≤w'.heap.size):Stock w' base R:=by
 refine ⟨fun i=>⟨?_,fun j p hp=>?_⟩,h.apart⟩
 · obtain ⟨h1,h2⟩:=(h.row i).1
   refine ⟨h1,?_⟩
   rcases h2 with h2 | ⟨g,cap,cur,hv,hg,hh,r⟩
   · exact .inl h2
   · have hlt:=((h.row i).1.lt g (by rw [hv];rfl)).2
     exact .inr ⟨g,cap,cur,hv,hg,by rw [hb g hg hlt];exact hh,r⟩
 · exact ((h.row i).2 j p hp).mono (fun b o hS=>World.cell?_of_block (hb b hS.1 hS.2.1)) fun b hS=>⟨hS.1,Nat.lt_of_lt_of_le hS.2.1 hs,hS.2.2⟩
theorem Stock.later {w w':World} {base:Nat} {R:Nat→Rw} (h:Stock w base R) (hb:Below w.heap.size w w'):Stock w' base R:=h.kept (fun b _ hl=>hb.block b hl) hb.size
theorem Stock.alloc {w:World} {base:Nat} {R:Nat→Rw} (h:Stock w base R) (o:Obj):Stock (w.alloc o) base R:=h.later ((Below.refl _ _).alloc (Nat.le_refl _) _)
theorem Stock.drew {w:World} {base:Nat} {R:Nat→Rw} (h:Stock w base R):Stock w.drew base R:=h.later (Below.refl _ _).drew
theorem Stock.setLow {w:World} {base:Nat} {R:Nat→Rw} (h:Stock w base R) (p:Addr) (v:Value) (hp:p.block < base):Stock (w.setCell p v) base R :=
 h.kept (fun b hb _=>Below.heap_setCell _ _ _ _ (by omega)) (by simp [World.setCell])
def upd (R:Nat→Rw) (i:Nat) (r:Rw):Nat→Rw:=fun j=>if j=i then r else R j
theorem zhf (R:Nat→Rw) (i:Nat) (r:Rw):upd R i r i=r:=by simp [upd]
theorem zgn (R:Nat→Rw) {i j:Nat} (r:Rw) (h:j ≠ i):upd R i r j=R j:=by simp [upd,h]
theorem Stock.push {w w':World} {base:Nat} {R:Nat→Rw} (h:Stock w base R) (i:Nat) (m:List Pr) (W:Nat→Value) (hm:∀ j p,m[j]?=some p→Lies 5 pc (Sof w base R) w p (W j)) {g cap n:Nat} (hn:n=(R i).l.length + m.length)
   (hown:w'.ownsRow base 32 5 (.slice (some ⟨g,0,none⟩) n cap) n (zaz (R i).V 0 (R i).l ++ zaz W 0 m)) (hgrow:w.grownBy w' (R i).v.ownBlock) (hat:(R i).v.ownBlock=some g ∨ g=w.heap.size) :
   Stock w' base (upd R i ⟨(R i).l ++ m,.slice (some ⟨g,0,none⟩) n cap,zfa (R i).l.length (R i).V W⟩):=by
 subst hn
 have hlt:∀ j k,(R j).v.ownBlock=some k→k < w.heap.size:=fun j k hk=>((h.row j).1.lt k hk).2
 have hne:∀ j,j ≠ i→(R j).v.ownBlock ≠ some g:=by
   intro j hj e
   rcases hat with h1 | h1
   · rcases h.apart j i hj with h2 | h2
     · rw [h2] at e;cases e
     · exact h2 (by rw [e,h1])
   · have:=hlt j g e;omega
 have hS:∀ b,Sof w base R b→Sof w' base (upd R i ⟨(R i).l ++ m,.slice (some ⟨g,0,none⟩) ((R i).l.length + m.length) cap,zfa (R i).l.length (R i).V W⟩) b:=by
   intro b hb
   refine ⟨hb.1,Nat.lt_of_lt_of_le hb.2.1 hgrow.size,fun j=>?_⟩
   by_cases e:j=i
   · subst e
     rw [zhf]
     simp only [Value.ownBlock,ne_eq,Option.some.injEq]
     intro e
     rcases hat with h1 | h1
     · exact hb.2.2 j (by rw [h1,e])
     · have:=hb.2.1;omega
   · rw [zgn _ _ e];exact hb.2.2 j
 have hc:∀ b o,Sof w base R b→w'.cell? ⟨b,o,none⟩=w.cell? ⟨b,o,none⟩:=fun b o hb=>hgrow.cell_far _ hb.2.1 (hb.2.2 i)
 refine ⟨fun j=>?_,fun j k hjk=>?_⟩
 · by_cases e:j=i
   · subst e
     rw [zhf]
     refine ⟨?_,fun a p hp=>?_⟩
     · simp only [List.length_append]
       rw [← zuf];exact hown
     · simp only at hp ⊢
       by_cases ha:a < (R j).l.length
       · rw [List.getElem?_append_left ha] at hp
         have:zfa (R j).l.length (R j).V W a=(R j).V a:=by simp [zfa,ha]
         rw [this]
         exact ((h.row j).2 a p hp).mono hc hS
       · rw [List.getElem?_append_right (by omega)] at hp
         have:zfa (R j).l.length (R j).V W a=W (a - (R j).l.length):=by simp [zfa,ha]
         rw [this]
         exact (hm _ p hp).mono hc hS
   · rw [zgn _ _ e]
     refine ⟨(h.row j).1.kept hgrow (h.apart j i e),fun a p hp=>((h.row j).2 a p hp).mono hc hS⟩
 · by_cases e:j=i
   · subst e
     rw [zhf,zgn _ _ (fun e=>hjk e.symm)]
     exact .inr fun e=>hne k (fun e=>hjk e.symm) (by rw [← e];rfl)
   · rw [zgn _ _ e]
     by_cases e':k=i
     · subst e'
       rw [zhf]
       exact .inr fun e2=>hne j e (by rw [e2];rfl)
     · rw [zgn _ _ e'];exact h.apart j k hjk
theorem Stock.slice {w:World} {base:Nat} {R:Nat→Rw} (h:Stock w base R) (i:Nat):∃ (oa:Option Addr) (cap g:Nat),(R i).v=.slice oa (R i).l.length cap∧(R i).l.length≤cap∧cap≤maxLen∧(0 < (R i).l.length→oa=some ⟨g,0,none⟩∧base≤g∧g < w.heap.size):=zaq (h.row i).1
theorem Stock.at {w:World} {base:Nat} {R:Nat→Rw} (h:Stock w base R) (i:Nat) {g n cap k:Nat} {p:Pr} (hv:(R i).v=.slice (some ⟨g,0,none⟩) n cap) (hp:(R i).l[k]?=some p) :
   (w.cell? ⟨g,k * 5,none⟩=some (.int .i64 p.op)∧w.cell? ⟨g,k * 5 + 1,none⟩=some (.string p.text)∧w.cell? ⟨g,k * 5 + 2,none⟩=some (.int .i64 p.n)∧w.cell? ⟨g,k * 5 + 3,none⟩=some (.complex .f64 p.x p.y)∧w.cell? ⟨g,k * 5 + 4,none⟩=some ((R i).V k)) ∧
     Lies 5 pc (Sof w base R) w p ((R i).V k):=by
 have h1:=(h.row i).1
 have hn:n=(R i).l.length:=by
   obtain ⟨oa,cap',g',e,_⟩:=zaq h1
   rw [hv] at e;cases e;rfl
 subst hn
 rw [hv] at h1
 have hk:=zc7 hp
 have c:∀ j u,(pc p ((R i).V k))[j]?=some u→w.cell? ⟨g,k * 5 + j,none⟩=some u:=by
   intro j u hu
   have hj:j < 5:=by have:=(List.getElem?_eq_some_iff.1 hu).1;rwa [zid] at this
   rw [h1.cellAt (k * 5 + j) (by omega),zfn _ _ _ _ _ hp _ hj,Nat.zero_add,hu]
 exact ⟨⟨c 0 _ rfl,c 1 _ rfl,c 2 _ rfl,c 3 _ rfl,c 4 _ rfl⟩,(h.row i).2 k p hp⟩
theorem Stock.lies {w:World} {base B:Nat} {R:Nat→Rw} (h:Stock w base R) (i:Nat) (hB:B≤base) (op:Int) (t:ByteArray) (n:Int) (x y:Nat) (ht:t.size≤maxLen):Lies 5 pc (fun b=>B≤b∧b < w.heap.size) w (.node op t n x y (R i).l) (R i).v:=by
 obtain ⟨oa,cap,g,e,h1,h2,hg⟩:=h.slice i
 rw [e]
 refine .mk op t n x y _ oa cap g 0 (R i).V ht h1 h2 (fun hp=>⟨(hg hp).1,by have:=(hg hp).2;omega⟩) (fun k p hp j u hu=>?_) fun k p hp=>?_
 · obtain ⟨rfl,_⟩:=hg (by have:=zc7 hp;omega)
   obtain ⟨⟨a0,a1,a2,a3,a4⟩,_⟩:=h.at i e hp
   rw [Nat.zero_add]
   match j,hu with
   | 0,hu=>cases hu;exact a0
   | 1,hu=>cases hu;exact a1
   | 2,hu=>cases hu;exact a2
   | 3,hu=>cases hu;exact a3
   | 4,hu=>cases hu;exact a4
 · exact ((h.row i).2 k p hp).mono (fun _ _ _=>rfl) fun b hS=>⟨Nat.le_trans hB hS.1,hS.2.1⟩
end Go.Proofs.YtodfhabkdaiopaaGreat
