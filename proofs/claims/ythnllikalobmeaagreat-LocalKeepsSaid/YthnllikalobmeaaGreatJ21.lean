/- Joined: KGreat, LCmp, LConc, Has. -/
import Derived.Test.YthnllikalobmeaaGreatJ19
import Derived.Test.YthnllikalobmeaaGreatJ03
import Derived.Test.YthnllikalobmeaaGreatJ11
import Derived.Test.YthnllikalobmeaaGreatJ20
import Derived.Shelf.Spec.SlicesGrow
import Derived.Lib.AppendZeros
import Derived.Test.YthnllikalobmeaaGreatJ17
import Derived.Test.YthnllikalobmeaaGreatJ01
namespace Go.Proofs.YthnllikalobmeaaGreat
set_option linter.unusedVariables false
set_option linter.unusedSimpArgs false
set_option maxRecDepth 100000
set_option maxHeartbeats 8000000
open Go.RowKit Go.Maps
theorem y21h {p:Prop} (h:p):Hid p:=Lib.hid h
def rawJ (l:List Fr) (f:Fr) (j:Nat) (s:ByteArray):Nat → Int:=if za9 (f.ids.take j) s = true then maxV (rawF l s) f.v else rawF l s
theorem zrz (l:List Fr) (f:Fr):rawJ l f 0 = rawF l:=by
 funext s;simp [rawJ,za9]
theorem ztu (l:List Fr) {f:Fr} {k:Nat} (hf:l[k]? = some f):rawJ (l.take k) f f.ids.length = rawF (l.take (k + 1)):=by
 funext s
 rw [ze7 hf]
 simp [rawJ,rawF,List.foldl_append,zbz]
theorem zri (A B:Nat → Int):maxV (maxV A B) B = maxV A B:=funext fun j=>zth A B j
theorem zry (l:List Fr) (f:Fr) {j:Nat} {s:ByteArray} (hs:f.ids[j]? = some s):(fun x=>if x = s then maxV (rawJ l f j s) f.v else rawJ l f j x) = rawJ l f (j + 1):=by
 funext x
 unfold rawJ
 rw [ze7 hs]
 by_cases e:x = s
 · subst e
   have h1:za9 (f.ids.take j ++ [x]) x = true:=among_iff.2 (by simp)
   rw [if_pos rfl,h1,if_pos rfl]
   split
   · exact zri _ _
   · rfl
 · rw [if_neg e]
   have h1:za9 (f.ids.take j ++ [s]) x = za9 (f.ids.take j) x:=by
     cases h:za9 (f.ids.take j) x with
     | true=>exact among_iff.2 (by simp [among_iff.1 h])
     | false =>
       cases h':za9 (f.ids.take j ++ [s]) x with
       | false=>rfl
       | true =>
         have:=among_iff.1 h'
         simp [e] at this
         rw [among_iff.2 this] at h;cases h
   rw [h1]
theorem zi2 {l:List Fr} {k:Nat} {f:Fr} (hf:l[k]? = some f):zah (l.take (k + 1)) = zah (l.take k) ++ f.ids:=by
 rw [ze7 hf];simp [zah]
theorem zqz {l:List Fr} {k:Nat}:(zah (l.take k)).length ≤ (zah l).length:=by
 unfold zah
 conv=>rhs;rw [← List.take_append_drop k l]
 rw [List.flatMap_append,List.length_append];omega
def zuf (l:List Fr) (n:Nat) (w0:World) (i:Value) (wr:World):Prop :=
 ∃ k:Nat,k ≤ n ∧ i = .int .i64 k ∧ Hid (Cnt wr w0.heap.size (zah (l.take k)).length (zah (l.take k)) (rawF (l.take k))) ∧ Hid (Below w0.heap.size w0 wr)
def zue (lk:List Fr) (f:Fr) (n:Nat) (w0:World) (X:Array Value) (bf:Nat) (i:Value) (wr:World):Prop :=
 ∃ j:Nat,j ≤ n ∧ i = .int .i64 j ∧ Hid (Cnt wr w0.heap.size ((zah lk).length + j) (zah lk ++ f.ids.take j) (rawJ lk f j)) ∧ Hid (Own wr bf X 105) ∧ Hid (Below w0.heap.size w0 wr)
theorem zjv (l:List Fr) (v:Value) (w:World) (hR:FrW w l v) (hlen:(zah l).length ≤ 10000) :
   Calls Tryz.prog 127 #[v] w fun e w'=>e = .returned (.map (some w.heap.size)) ∧ Cnt w' w.heap.size (zah l).length (zah l) (rawF l) ∧ Below w.heap.size w w':=by
 obtain ⟨U,oa,cap,bl,o,rfl,hF⟩:=hR
 have hc1:=hF.len
 have hc2:=hF.max
 unfold maxLen at hc2
 have HF:=y21h hF
 clear hF
 have hmm:=@run_makeMap Tryz.prog
 have I0:zuf l l.length w (.int .i64 0) (w.alloc (.map #[] 0)):=⟨0,Nat.zero_le _,rfl,by rw [List.take_zero];exact y21h (Cnt.made w),y21h ((Below.refl _ _).alloc (Nat.le_refl _) _)⟩
 have HI:=y21h I0
 clear I0
 generalize hn:l.length = n at *
 have HN:=y21h hn
 clear hn
 go_enter Tryz.func127,Tryz.ntmps127
 go_wp2_with fail
 go_loopw [11] (fun i wr=>zuf l n w i wr) (fun i _=>n - (intOf i).toNat)
 case atStart=>exact HI.out
 case round =>
   clear HI
   obtain ⟨k,hk,rfl,HC,HB⟩:=hrel
   by_cases hlt:k < n
   · obtain ⟨f,hf⟩:∃ f,l[k]? = some f:=⟨_,List.getElem?_eq_getElem (by rw [HN.out];exact hlt)⟩
     have hat:=HF.out.at0 (by rw [HN.out];omega)
     obtain ⟨rfl,hbl⟩:=hat
     have FL:=HF.out.later HB.out (Nat.le_refl _)
     obtain ⟨c0,c1,c2,c3,c4,c5,c6,c7,c8⟩:=zbm (w:=wr) (fun j u hu=>FL.cell k f hf j u hu)
     have zl:bl < wr.heap.size:=Nat.lt_of_lt_of_le hbl HB.out.size
     obtain ⟨ob,cb,b',o',hU,hT⟩:=HF.out.ids k f hf
     have ht1:=hT.len
     have ht2:=hT.max
     unfold maxLen at ht2
     have HT:=y21h hT
     have HL:=y21h (show (zah (l.take k)).length + f.ids.length ≤ 10000 by
       have h1:=zqz (l:=l) (k:=k + 1)
       rw [zi2 hf,List.length_append] at h1
       omega)
     have HJ0:=y21h (zrz (l.take k) f)
     have HJ1:=y21h (ztu l hf)
     have HJ2:=y21h (zi2 hf)
     rw [hU] at c0
     clear FL hT hf
     generalize hk1:l.take (k + 1) = lk1 at *
     have HK1:=y21h hk1
     have hkn:=y21h hlt
     clear hk1
     generalize l.take k = lk at *
     have CA:=HC.out.later ((Below.refl _ wr).alloc (Nat.le_refl _) (.cells #[.slice ob f.ids.length cb,.int .i64 (f.v 0),.int .i64 (f.v 1),.int .i64 (f.v 2),.int .i64 (f.v 3),.int .i64 (f.v 4),.int .i64 (f.v 5),.int .i64 (f.v 6),.int .i64 (f.v 7)] 105))
     have J0:zue lk f f.ids.length w #[.slice ob f.ids.length cb,.int .i64 (f.v 0),.int .i64 (f.v 1),.int .i64 (f.v 2),.int .i64 (f.v 3),.int .i64 (f.v 4),.int .i64 (f.v 5),.int .i64 (f.v 6),.int .i64 (f.v 7)] wr.heap.size (.int .i64 0) (wr.alloc (.cells #[.slice ob f.ids.length cb,.int .i64 (f.v 0),.int .i64 (f.v 1),.int .i64 (f.v 2),.int .i64 (f.v 3),.int .i64 (f.v 4),.int .i64 (f.v 5),.int .i64 (f.v 6),.int .i64 (f.v 7)] 105)) :=
       ⟨0,Nat.zero_le _,rfl,by rw [HJ0.out,List.take_zero,List.append_nil];exact y21h CA,y21h (Own.new _ _ _),y21h (HB.out.alloc HB.out.size _)⟩
     have HJ:=y21h J0
     have HC0:=HC.out.lt
     clear J0 CA HC HJ0
     have hbf:w.heap.size < wr.heap.size:=HC0
     generalize hm:f.ids.length = m at *
     have HM:=y21h hm
     clear hm
     go_upto_block 2 with fail
     clear c0 c1 c2 c3 c4 c5 c6 c7 c8 hlt zl hbl
     generalize wr.heap.size = bf at *
     go_wp2_with fail
     go_loopw [18] (fun i wr=>zue lk f m w #[.slice ob m cb,.int .i64 (f.v 0),.int .i64 (f.v 1),.int .i64 (f.v 2),.int .i64 (f.v 3),.int .i64 (f.v 4),.int .i64 (f.v 5),.int .i64 (f.v 6),.int .i64 (f.v 7)] bf i wr) (fun i _=>m - (intOf i).toNat)
     case atStart=>exact HJ.out
     case round =>
       clear HJ HB
       obtain ⟨j,hj,rfl,HC,HO,HB⟩:=hrel
       by_cases hlt:j < m
       · obtain ⟨s,hs⟩:∃ s,f.ids[j]? = some s:=⟨_,List.getElem?_eq_getElem (by rw [HM.out];exact hlt)⟩
         obtain ⟨rfl,hbt⟩:=HT.out.at0 (by rw [HM.out];omega)
         have cs:=(HT.out.later HB.out (Nat.le_refl _)).cell j s hs
         have zt:b' < wr.heap.size:=Nat.lt_of_lt_of_le hbt HB.out.size
         have hsz:=HT.out.ok s (List.mem_of_getElem? hs)
         have hlk:=HC.out.look hsz
         have lo:=HO.out.cell
         have zo:=HO.out.lt
         have HS:=y21h (zry lk f hs)
         have HT2:=y21h (ze7 hs)
         have hnn:(zah lk).length + j < maxLen:=by have:=HL.out;unfold maxLen;omega
         have CM:=fun w'=>y21h (zm8 (rawJ lk f j s) f.v w')
         have PUT:=fun w' (h3:Below wr.heap.size wr w')=>(HC.out.later h3).put hsz hnn (maxV (rawJ lk f j s) f.v)
         have PP:=y21h PUT
         have HZ:=y21h hsz
         clear hs hsz hbt PUT
         go_wp2_with (go_at_call 161;refine (CM _).out.mono ?_;rintro e w3 ⟨rfl,hb3⟩;obtain ⟨w4,hput,hc4,hg4⟩:=PP.out w3 hb3)
         have B4:=y21h ((HB.out.trans (hb3.mono HB.out.size)).grown hg4 (by have:=hb3.size;have:=HB.out.size;omega) (fun q hq=>by cases hq;exact Nat.le_refl _))
         have O4:=y21h ((HO.out.later hb3).grown hg4 (by simp;omega))
         go_roundw
         case rel=>exact ⟨j + 1,by omega,by go_num,by rw [HT2.out,← HS.out,← List.append_assoc];exact y21h hc4,O4,B4⟩
         case measure=>simp [intOf];omega
       · have e:j = m:=by omega
         subst e
         have HC2:=y21h (show Cnt wr w.heap.size (zah lk1).length (zah lk1) (rawF lk1) by
           have h:=HC.out
           rw [HJ1.out,← HM.out,List.take_length,← List.length_append,← HJ2.out] at h
           exact h)
         have hkn':=hkn.out
         go_wp2_with fail
         go_roundw
         case rel=>exact ⟨k + 1,by omega,by go_num,by rw [HK1.out];exact HC2,HB⟩
         case measure=>simp [intOf];omega
   · have e:k = n:=by omega
     have h:=HC.out
     rw [List.take_of_length_le (by rw [HN.out];omega)] at h
     have H7:=y21h h
     clear h e
     go_wp2_with fail
     go_ret
     exact ⟨rfl,H7.out,HB.out⟩
end Go.Proofs.YthnllikalobmeaaGreat
namespace Go.Proofs.YthnllikalobmeaaGreat
set_option linter.unusedVariables false
set_option linter.unusedSimpArgs false
set_option maxRecDepth 100000
set_option maxHeartbeats 8000000
open Go.RowKit
def cmpS (a b:ByteArray):Int:=if lsB a b = true then -1 else if lsB b a = true then 1 else 0
theorem zlw (a b:ByteArray):decide (cmpS a b < 0) = lsB a b:=by
 unfold cmpS
 cases lsB a b <;> cases lsB b a <;> simp
theorem zkb (a b:ByteArray):decide (cmpS a b = 0) = (a.toList == b.toList):=by
 unfold cmpS
 rcases zcx a b with h | h | h
 · rw [h,tl_ne.2 (zez h)];simp
 · rw [h,za4,tl_eq.2 rfl];simp
 · rw [zc9 h,h,tl_ne.2 fun e=>zez h e.symm];simp
theorem zmm (a:ByteArray) (w:World) :
   Calls Tryz.prog 168 #[.string a] w fun e w'=>e = .returned (.bool false) ∧ w = w':=by
 go_enter Tryz.func168,Tryz.ntmps168
 go_wp2
 go_ret
 exact ⟨zaa (by simp),rfl⟩
theorem ziq (a b:ByteArray) (w:World) :
   Calls Tryz.prog 143 #[.string a,.string b] w fun e w'=>e = .returned (.int .i64 (cmpS a b)) ∧ w = w':=by
 have H:=fun a w=>y21h (zmm a w)
 cases h1:Op.bytesLess a.toList b.toList
 · cases h2:(a.toList == b.toList)
   · have e:cmpS a b = 1:=by
       unfold cmpS lsB
       have:=zcx a b
       unfold lsB at this
       rcases this with h | h | h
       · rw [h1] at h;cases h
       · rw [tl_eq.2 h] at h2;cases h2
       · rw [h1,h];rfl
     rw [e]
     go_enter Tryz.func143,Tryz.ntmps143
     go_wp2_with (go_at_call 168;refine ((H _ _).out).mono ?_;rintro e w' ⟨rfl,rfl⟩)
     all_goals
       go_ret
       first | exact ⟨zbu (by simp_all),rfl⟩ | simp_all
   · have e:cmpS a b = 0:=by
       unfold cmpS
       rw [tl_eq.1 h2,za4];rfl
     rw [e]
     go_enter Tryz.func143,Tryz.ntmps143
     go_wp2_with (go_at_call 168;refine ((H _ _).out).mono ?_;rintro e w' ⟨rfl,rfl⟩)
     all_goals
       go_ret
       first | exact ⟨zbu (by simp_all),rfl⟩ | simp_all
 · have e:cmpS a b = -1:=by
     unfold cmpS lsB
     rw [h1];rfl
   rw [e]
   go_enter Tryz.func143,Tryz.ntmps143
   go_wp2_with (go_at_call 168;refine ((H _ _).out).mono ?_;rintro e w' ⟨rfl,rfl⟩)
   all_goals
     go_ret
     first | exact ⟨zbu (by simp_all),rfl⟩ | simp_all
theorem zn0 (x:Itm) (id:ByteArray) (w:World) :
   Calls Tryz.prog 159 #[iV x,.string id] w fun e w'=>e = .returned (.int .i64 (cmpS x.id id)) ∧ Below w.heap.size w w':=by
 have H:=fun a b w=>y21h (ziq a b w)
 have BEL:=y21h ((Below.refl w.heap.size w).alloc (Nat.le_refl _) (.cells (iA x) 69))
 go_enter Tryz.func159,Tryz.ntmps159
 go_wp2_with (go_at_call 143;refine ((H _ _ _).out).mono ?_;rintro e w' ⟨rfl,rfl⟩)
 go_ret
 exact ⟨rfl,BEL.out⟩
def zxf (k len:Nat) (w:World) (iv jv:Value) (wr:World):Prop :=
 ∃ i j:Nat,iv = .int .i64 i ∧ jv = .int .i64 j ∧ i ≤ k ∧ k ≤ j ∧ j ≤ len ∧ Hid (Below w.heap.size w wr)
theorem zk0 (l:List Itm) (id:ByteArray) (v:Value) (w:World) (hR:Row 8 ic w l v) (hr:zak l) (hl:l.length ≤ 10000) :
   Calls Tryz.prog 158 #[v,.string id,.func (.func 159) #[] #[]] w fun e w'=>e = .returned (.tuple #[.int .i64 (posI l id),.bool (hitI l id)]) ∧ Below w.heap.size w w':=by
 obtain ⟨oa,cap,b,o,rfl,hR⟩:=hR
 have HR:=y21h hR
 have HC:=fun x w=>y21h (zn0 x id w)
 have hcap:=hR.len
 have hmax:=hR.max
 unfold maxLen at hmax
 have PI:=fun (j:Nat) (i:Itm) (h:l[j]? = some i)=>y21h (zj3 (id:=id) hr h)
 have hk:=zfl l id
 have HH:=y21h (show ∀ i,l[posI l id]? = some i → hitI l id = (i.id.toList == id.toList) from fun i hi=>by unfold hitI;rw [hi])
 have HN0:=y21h (show l[posI l id]? = none → hitI l id = false from fun hi=>by unfold hitI;rw [hi])
 clear hR hr
 generalize hn:l.length = len at *
 have HN:=y21h hn
 clear hn
 generalize posI l id = k at *
 generalize hitI l id = hit at *
 go_enter Tryz.func158,Tryz.ntmps158
 go_wp2_with fail
 go_loopw [9,10] (fun iv jv wr=>zxf k len w iv jv wr) (fun iv jv _=>(intOf jv).toNat - (intOf iv).toNat)
 case atStart=>exact ⟨0,len,rfl,rfl,Nat.zero_le _,hk,Nat.le_refl _,Below.refl _ _⟩
 case round =>
   obtain ⟨i,j,rfl,rfl,hi,hj,hjl,HB⟩:=hrel
   by_cases hlt:i < j
   · obtain ⟨x,hx⟩:∃ x,l[(i + j) / 2]? = some x:=⟨_,List.getElem?_eq_getElem (by rw [HN.out];omega)⟩
     obtain ⟨rfl,hb0⟩:=HR.out.at0 (by rw [HN.out];omega)
     obtain ⟨c0,c1,c2,c3,c4,c5,c6,c7⟩:=zaw (w:=wr) (fun q u hu=>(HB.out.cell (p:=⟨b,o + (i + j) / 2 * 8 + q,none⟩) hb0).trans (HR.out.cell _ x hx q u hu))
     have zb:=Nat.lt_of_lt_of_le hb0 HB.out.size
     have P:=PI _ _ hx
     have k1:(i:Int) < (j:Int):=by omega
     have h1:(i + j) / 2 < j:=by omega
     have h2:i ≤ (i + j) / 2:=by omega
     have e1:((i:Int) + (j:Int)) / 2 = (((i + j) / 2:Nat):Int):=by omega
     generalize (i + j) / 2 = h at *
     have q0:(0:Int) ≤ (h:Int):=by omega
     have q1:(h:Int) < (len:Int):=by omega
     cases hs:lsB x.id id
     · have g:decide (cmpS x.id id < 0) = false:=by rw [zlw];exact hs
       have hle:k ≤ h:=by have:=P.out;rw [hs] at this;have:=of_decide_eq_false this.symm;omega
       clear P PI HH HN0 hs
       go_wp2_with (go_at_call 159;refine (HC _ _).out.mono ?_;rintro e w' ⟨rfl,hb⟩)
       go_roundw
       case rel=>exact ⟨i,h,rfl,rfl,hi,hle,by omega,y21h (HB.out.trans (hb.mono HB.out.size))⟩
       case measure=>simp [intOf];omega
     · have g:decide (cmpS x.id id < 0) = true:=by rw [zlw];exact hs
       have hle:h < k:=by have:=P.out;rw [hs] at this;have:=of_decide_eq_true this.symm;omega
       clear P PI HH HN0 hs
       go_wp2_with (go_at_call 159;refine (HC _ _).out.mono ?_;rintro e w' ⟨rfl,hb⟩)
       go_roundw
       case rel=>exact ⟨h + 1,j,by go_num,rfl,hle,hj,hjl,y21h (HB.out.trans (hb.mono HB.out.size))⟩
       case measure=>simp [intOf];omega
   · have e:i = k:=by omega
     subst e
     have e:j = i:=by omega
     subst e
     clear hi hj
     by_cases hlt2:j < len
     · obtain ⟨x,hx⟩:∃ x,l[j]? = some x:=⟨_,List.getElem?_eq_getElem (by rw [HN.out];omega)⟩
       obtain ⟨rfl,hb0⟩:=HR.out.at0 (by rw [HN.out];omega)
       obtain ⟨c0,c1,c2,c3,c4,c5,c6,c7⟩:=zaw (w:=wr) (fun q u hu=>(HB.out.cell (p:=⟨b,o + j * 8 + q,none⟩) hb0).trans (HR.out.cell _ x hx q u hu))
       have zb:=Nat.lt_of_lt_of_le hb0 HB.out.size
       have q0:(0:Int) ≤ (j:Int):=by omega
       have q1:(j:Int) < (len:Int):=by omega
       have E:=y21h (HH.out x hx)
       clear PI HH HN0 hx
       cases hs:(x.id.toList == id.toList)
       · have g:(cmpS x.id id == 0) = false:=by
           have:=zkb x.id id;rw [hs] at this
           rw [beq_eq_false_iff_ne];exact of_decide_eq_false this
         have E:=y21h (E.out.trans hs)
         go_wp2_with (go_at_call 159;refine (HC _ _).out.mono ?_;rintro e w' ⟨rfl,hb⟩)
         go_ret2
         exact ⟨by rw [E.out];rfl,HB.out.trans (hb.mono HB.out.size)⟩
       · have g:(cmpS x.id id == 0) = true:=by
           have:=zkb x.id id;rw [hs] at this
           rw [beq_iff_eq];exact of_decide_eq_true this
         have E:=y21h (E.out.trans hs)
         go_wp2_with (go_at_call 159;refine (HC _ _).out.mono ?_;rintro e w' ⟨rfl,hb⟩)
         go_ret2
         exact ⟨by rw [E.out];rfl,HB.out.trans (hb.mono HB.out.size)⟩
     · have E:=y21h (HN0.out (List.getElem?_eq_none (by rw [HN.out];omega)))
       go_wp2_with fail
       go_ret2
       exact ⟨by rw [E.out];rfl,HB.out⟩
theorem zf6 (l:List Itm) (id:ByteArray) (v:Value) (w:World) (hR:Row 8 ic w l v) (hr:zak l) (hl:l.length ≤ 10000) :
   Calls Tryz.prog 121 #[v,.string id] w fun e w'=>e = .returned (.tuple #[.int .i64 (posI l id),.int .i64 (toI l id)]) ∧ Below w.heap.size w w':=by
 have H:=y21h (zk0 l id v w hR hr hl)
 obtain ⟨oa,cap,rfl⟩:=hR.val
 have hk:=zfl l id
 unfold toI
 clear hR hr
 generalize hitI l id = hit at *
 generalize posI l id = k at *
 cases hit
 · go_enter Tryz.func121,Tryz.ntmps121
   go_wp2_with (go_at_call 158;refine H.out.mono ?_;rintro e w' ⟨rfl,hb⟩)
   go_ret2
   exact ⟨rfl,hb⟩
 · go_enter Tryz.func121,Tryz.ntmps121
   go_wp2_with (go_at_call 158;refine H.out.mono ?_;rintro e w' ⟨rfl,hb⟩)
   go_ret2
   exact ⟨rfl,hb⟩
def growI_ren:Go.Shelf.Ren:=⟨fun | 4=>173 | n=>n,
 fun | 22=>41 | 25=>69 | 3=>3 | 4=>4 | 9=>9 | 20=>20 | 0=>0 | n=>n,
 fun | n=>n⟩
theorem zuh:Go.Proofs.Lays8.n4 Tryz.prog growI_ren:={
 mixed:=by kernel_rfl,
 f4:=⟨Tryz.f173.name,by decide,Tryz.func173.trans (congrArg some (by kernel_rfl))⟩,
 t0:=Tryz.underlying0,
 a0:=Tryz.isAgg0,
 z0:=Tryz.sizeOf0,
 v0:=Tryz.zeroValue0,
 t3:=Tryz.underlying3,
 a3:=Tryz.isAgg3,
 z3:=Tryz.sizeOf3,
 v3:=Tryz.zeroValue3,
 t4:=Tryz.underlying4,
 a4:=Tryz.isAgg4,
 z4:=Tryz.sizeOf4,
 v4:=Tryz.zeroValue4,
 t9:=Tryz.underlying9,
 a9:=Tryz.isAgg9,
 z9:=Tryz.sizeOf9,
 v9:=Tryz.zeroValue9,
 t20:=Tryz.underlying20,
 a20:=Tryz.isAgg20,
 z20:=Tryz.sizeOf20,
 v20:=Tryz.zeroValue20,
 t22:=Tryz.underlying41,
 a22:=Tryz.isAgg41,
 z22:=Tryz.sizeOf41,
 v22:=Tryz.zeroValue41 }
theorem znm (n:Nat) (hn:n ≤ 20000) (w:World) :
   Calls Tryz.prog 173 #[.slice none 0 0,.int .i64 n] w fun e w'=>∃ v,e = .returned v ∧ OwnI w' w.heap.size [] v ∧ Below w.heap.size w w':=by
 obtain ⟨j0,hj,hy0,hy1,hy2⟩:=info_parts zb1
 by_cases h0:n = 0
 · subst h0
   refine (Any8.slices_Grow_room zuh none 0 0 0 w (by omega) (by omega) (by omega) (by omega)).mono ?_
   rintro e w' ⟨rfl,rfl⟩
   exact ⟨_,rfl,OwnI.nil _ _,Below.refl _ _⟩
 · refine (Any8.slices_Grow_grow zuh j0 _ hj hy0 (by rw [hy1];omega) none 0 0 n [] w (by omega) (by omega) (by rw [hy2];omega) (by omega) (by simp) (fun _=>rfl) (fun a h=>by cases h)).mono ?_
   rintro e w' ⟨rfl,rfl⟩
   have hge:=grownCap_ge w (0 + n) 0 (growI_ren.t 25)
   have hle:=grownCap_le_maxLen w (0 + n) 0 (growI_ren.t 25) (by unfold maxLen;omega)
   refine ⟨_,rfl,⟨by simp [zap],.inr ⟨w.heap.size,_,_,rfl,Nat.le_refl _,heap_alloc_new w.drew _,by simp,hle,?_,by simp [zap]⟩⟩,(Below.refl _ _).drew.alloc (Nat.le_refl _) _⟩
   simp only [Array.size_append,List.size_toArray,size_zeroCells,List.length_nil,Nat.zero_add,Nat.sub_zero]
   rw [← Nat.add_mul]
   rw [show (Value.cells (.agg #[.string ⟨#[]⟩,.int .i64 0,.int .i64 0,.int .i64 0,.string ⟨#[]⟩,.int .i64 0,.complex .f64 0 0,.bool false])).size = 8 from rfl]
   congr 1
   simp only [Nat.zero_add] at hge
   omega
theorem zqa (a:Addr) (w:World):(storeCells a []).run Tryz.prog w = .ok () w:=by simp [storeCells]
theorem zii (ty:TypeId) (base oa:Option Addr) (n cap c:Nat) (hn:n ≤ cap) (w:World) :
   (Builtin.append_ #[41,41] ty #[.slice base n cap,.slice oa 0 c]).run Tryz.prog w = .ok (.slice base n cap) w:=by
 obtain ⟨j0,hj,hy0,hy1,hy2⟩:=info_parts zb1
 have hf:(Builtin.firstCells j0.size 0 (.slice oa 0 c)).run Tryz.prog w = .ok #[] w:=by
   cases oa with
   | none=>exact run_firstCells_none w _ _ _ _
   | some a=>exact run_firstCells_some w j0.size 0 a 0 c [] (by simp) (fun j v h=>by simp at h)
 cases base with
 | none=>simp [Builtin.append_,run_underlying Tryz.underlying41,sizeOf,typeInfo,hj,Builtin.lenOf,hn,hf,Result.andThen]
 | some a=>simp [Builtin.append_,run_underlying Tryz.underlying41,sizeOf,typeInfo,hj,Builtin.lenOf,hn,hf,zqa,Result.andThen]
theorem zhp (l:List Itm):∀ u ∈ zap l,u.oneCell' = true:=by
 intro u hu
 unfold zap at hu
 obtain ⟨i,_,hi⟩:=List.mem_flatMap.1 hu
 exact zc7 i u hi
theorem za6 (ty:TypeId) {w:World} {base:Nat} {v sv:Value} {l m:List Itm} (hown:OwnI w base l v) (hM:Row 8 ic w m sv) (hn:l.length + m.length ≤ 30000) (hbase:base ≤ w.heap.size) :
   ∃ v' w',(Builtin.append_ #[41,41] ty #[v,sv]).run Tryz.prog w = .ok v' w' ∧ OwnI w' base (l ++ m) v' ∧ w.grownBy w' v.ownBlock:=by
 obtain ⟨oa,cap,b,o,rfl,h⟩:=hM
 obtain ⟨j0,hj,hy0,hy1,hy2⟩:=info_parts zb1
 by_cases h0:m.length = 0
 · have e:m = []:=List.length_eq_zero_iff.1 h0
   subst e
   obtain ⟨ov,cv,gv,e,h1,_⟩:=zan hown
   subst e
   refine ⟨_,w,zii ty ov oa l.length cv cap h1 w,?_,⟨rfl,rfl,rfl,Nat.le_refl _,fun _ _ _=>rfl⟩⟩
   rw [List.append_nil];exact hown
 · obtain ⟨rfl,hb⟩:=h.at0 (by omega)
   obtain ⟨v',w',r1,r2,r3,_⟩:=run_append_own w base 41 ty 69 j0 _ 8 88 Tryz.underlying41 hj hy0 hy1 hy2 rfl (by omega) v l.length (zap l) hown ⟨b,o,none⟩ m.length cap (zap m) (zcn m) (zg0 h rfl) (zhp m) (by unfold maxLen;omega) (by omega) hbase
   refine ⟨v',w',r1,?_,r3⟩
   unfold OwnI
   rw [zga,List.length_append]
   exact r2
structure SrcI (N:Nat) (w:World) (L:Nat → List Itm) (V:Nat → Value) (bs:Nat):Prop where
 lt:bs < w.heap.size
 cell:∀ k,k < N → w.cell? ⟨bs,k,none⟩ = some (V k)
 lies:∀ k,k < N → Row 8 ic w (L k) (V k)
 len:∀ k,k < N → (L k).length ≤ 2000
def catI (L:Nat → List Itm):Nat → List Itm
 | 0=>[]
 | k + 1=>catI L k ++ L k
theorem SrcI.tot {N:Nat} {w:World} {L:Nat → List Itm} {V:Nat → Value} {bs:Nat} (h:SrcI N w L V bs):∀ k,k ≤ N → (catI L k).length ≤ 2000 * k:=by
 intro k
 induction k with
 | zero=>intro _;simp [catI]
 | succ k ih =>
   intro hk
   have h1:=ih (by omega)
   have h2:=h.len k (by omega)
   simp only [catI,List.length_append];omega
def SumI (N:Nat) (L:Nat → List Itm) (w0:World) (s i:Value) (wr:World):Prop:=∃ k:Nat,k ≤ N ∧ i = .int .i64 k ∧ s = .int .i64 (catI L k).length ∧ Hid (w0 = wr)
def CatR (N:Nat) (L:Nat → List Itm) (w0:World) (v i:Value) (wr:World):Prop :=
 ∃ k:Nat,k ≤ N ∧ i = .int .i64 k ∧ Hid (OwnI wr w0.heap.size (catI L k) v) ∧ Hid (Below w0.heap.size w0 wr)
theorem zgl (N:Nat) (hN:N ≤ 5) (L:Nat → List Itm) (V:Nat → Value) (bs:Nat) (w:World) (hS:SrcI N w L V bs) :
   Calls Tryz.prog 154 #[.slice (some ⟨bs,0,none⟩) N N] w fun e w'=>∃ v,e = .returned v ∧ OwnI w' w.heap.size (catI L N) v ∧ Below w.heap.size w w':=by
 have HS:=y21h hS
 have G:=fun w'=>y21h (znm (catI L N).length (by have:=HS.out.tot N (Nat.le_refl _);omega) w')
 clear hS
 go_enter Tryz.func154,Tryz.ntmps154
 go_wp2_with fail
 go_loopw [3,11] (fun s i wr=>SumI N L w s i wr) (fun _ i _=>N - (intOf i).toNat)
 case atStart=>exact ⟨0,by omega,rfl,rfl,rfl⟩
 case round =>
   obtain ⟨k,hk,rfl,rfl,hw⟩:=hrel
   have ew:=hw.out
   subst ew
   clear hw
   by_cases hlt:k < N
   · obtain ⟨oa,cap,hV⟩:=(HS.out.lies k hlt).val
     have cv:=HS.out.cell k hlt
     rw [hV] at cv
     have zb:=HS.out.lt
     have t1:=HS.out.tot k hk
     have t2:=HS.out.len k hlt
     have t3:(catI L (k + 1)).length = (catI L k).length + (L k).length:=by simp [catI]
     have k0:(0:Int) ≤ (k:Int):=by omega
     have k1:(k:Int) < (N:Int):=by omega
     have HT:=y21h t3
     clear t3 hV
     generalize (L k).length = m at *
     generalize ht:(catI L k).length = t at *
     have hneg:decide (((t:Int) + (m:Int)) < 0) = false:=decide_eq_false (by omega)
     go_wp2_with fail
     go_roundw
     case rel=>exact ⟨k + 1,by omega,by go_num,by rw [HT.out];go_num,rfl⟩
     case measure=>simp [intOf];omega
   · have e:k = N:=by omega
     subst e
     go_wp2_with (go_at_call 173;refine (G _).out.mono ?_;rintro e w1 ⟨v0,rfl,hr0,hb0⟩)
     have C0:CatR k L w v0 (.int .i64 0) w1:=⟨0,by omega,rfl,hr0,hb0⟩
     clear hr0 hb0
     go_loopw [6,27] (fun v i wr=>CatR k L w v i wr) (fun _ i _=>k - (intOf i).toNat)
     case atStart=>exact C0
     case round =>
       clear C0
       obtain ⟨q,hq,rfl,HR,HB⟩:=hrel
       by_cases hlt:q < k
       · have LR:=(HS.out.lies q hlt).later HB.out
         obtain ⟨oa,cap,hV⟩:=LR.val
         have cv:=(HB.out.cell (p:=⟨bs,q,none⟩) HS.out.lt).trans (HS.out.cell q hlt)
         rw [hV] at cv LR
         have zb:bs < wr.heap.size:=Nat.lt_of_lt_of_le HS.out.lt HB.out.size
         have t1:=HS.out.tot q hq
         have t2:=HS.out.len q hlt
         have k0:(0:Int) ≤ (q:Int):=by omega
         have k1:(q:Int) < (k:Int):=by omega
         have HA:=y21h (fun ty=>za6 ty HR.out LR (by omega) HB.out.size)
         obtain ⟨ov,cvv,hrv⟩:=HR.out.len
         subst hrv
         clear LR hV
         go_wp2_with (at_builtin;obtain ⟨v',w',hrun,hown,hgr⟩:=HA.out _;refine Lib.wpList_append_run _ rfl _ _ _ _ rfl _ _ rfl rfl _ _ hrun ?_)
         have HB2:=y21h (za3 HR.out HB.out (Nat.le_refl _) hgr HB.out.size)
         go_roundw
         case rel=>exact ⟨q + 1,by omega,by go_num,hown,HB2⟩
         case measure=>simp [intOf];omega
       · have e:q = k:=by omega
         subst e
         go_wp2_with fail
         go_ret
         exact ⟨_,rfl,HR.out,HB.out⟩
abbrev itV (i:It) (r c st:Int) (d:Bool):Value:=.agg #[.string i.id,.int .i64 r,.int .i64 c,.int .i64 st,.string i.kd,.int .i64 i.num,.complex .f64 i.ax i.ay,.bool d]
abbrev itC (i:It) (r c st:Int) (d:Bool):Array Value:=#[.string i.id,.int .i64 r,.int .i64 c,.int .i64 st,.string i.kd,.int .i64 i.num,.complex .f64 i.ax i.ay,.bool d]
def zik (i:It) (r c st:Int) (d:Bool) (k:Pr):Prop:=∀ (v:Value) (w:World),LP w k v →
   Calls Tryz.prog 30 #[.agg #[.int .i64 k.op,.string k.text,.int .i64 k.n,.complex .f64 k.x k.y,v],itV i r c st d] w fun e w'=>e = .returned (.bool (k.hasB i)) ∧ Below w.heap.size w w'
theorem znz (i:It) (r c st:Int) (d b:Bool) (k:Pr) (H:zik i r c st d k) (v:Value) (w:World) (hL:LP w k v) (bx bh:Nat) (hx:Has w bx (itC i r c st d)) (hh:Has w bh #[.bool b]) :
   Calls Tryz.prog 113 #[.agg #[.int .i64 k.op,.string k.text,.int .i64 k.n,.complex .f64 k.x k.y,v],.pointer (some ⟨bx,0,none⟩),.pointer (some ⟨bh,0,none⟩)] w fun e w'=>e = .returned (.bool (k.hasB i == b)) ∧ Below w.heap.size w w':=by
 obtain ⟨oq,cq,rfl⟩:=zam hL
 have CC:=fun dd os o=>H (.slice oq k.kids.length cq) (Sort.grow (redrawn (w.alloc o) dd) os) ((hL.atAlloc o).later (below_regrown _ _ _) (Nat.le_refl _))
 have m3:=fun dd os o=>y21h (Calls.regrown_of (CC dd os o))
 have G1:=y21h (Has.new w #[.int .i64 k.op,.string k.text,.int .i64 k.n,.complex .f64 k.x k.y,.slice oq k.kids.length cq] 40)
 have l1:=G1.out.cell
 have LA:=fun dd os o=>G1.out.regrown dd os o
 have LB:=fun dd os a o=>(hx.alloc a).regrown dd os o
 have LC:=fun dd os a o=>(hh.alloc a).regrown dd os o
 have z1:=hx.lt
 have z2:=hh.lt
 generalize Pr.hasB i k = kb at *
 clear CC hL H hx hh
 go_enter Tryz.func113,Tryz.ntmps113
 go_wp2_with fail
 refine wp_region_quiet_below (by kernel_rfl) (by kernel_rfl) ?_
 repeat (first | go_big_quiet_step ((with_reducible exact (m3 _ _ _).out)) | quiet_step (with_reducible exact (m3 _ _ _).out))
 refine wpQuiet_nil ?_
 intro w7 hw'
 have hb':=y21h (zae hw')
 clear hw' m3 LA LB LC
 go_wp2_with fail
 go_ret
 exact ⟨rfl,zal hb'.out⟩
def zxk (P:Pr → Bool) (l:List Pr) (len:Nat) (w0:World) (i:Value) (wr:World):Prop :=
 ∃ k:Nat,k ≤ len ∧ i = .int .i64 k ∧ Hid ((l.take k).any P = false) ∧ Below w0.heap.size w0 wr
theorem zsp {P:Pr → Bool} {l:List Pr} {k:Nat} {q:Pr} (hq:l[k]? = some q) (h:(l.take k).any P = false) (hs:P q = false):(l.take (k + 1)).any P = false:=by
 rw [Pr.take_one hq,List.any_append,h];simp [hs]
theorem zuz {P:Pr → Bool} {l:List Pr} {k:Nat} {q:Pr} (hq:l[k]? = some q) (hs:P q = true):l.any P = true:=by
 rw [List.any_eq_true];exact ⟨q,List.mem_of_getElem? hq,hs⟩
theorem zmf (i:It) (r c st:Int) (d b:Bool) (l:List Pr) (H:∀ k ∈ l,zik i r c st d k) (oa:Option Addr) (cap:Nat) (w:World) (hL:LK w l (.slice oa l.length cap)) (bx bh:Nat) (hx:Has w bx (itC i r c st d)) (hh:Has w bh #[.bool b]) :
   Calls Tryz.prog 151 #[.slice oa l.length cap,.func (Fn.func 113) #[] #[.pointer (some ⟨bx,0,none⟩),.pointer (some ⟨bh,0,none⟩)]] w fun e w' =>
     ∃ n:Int,e = .returned (.int .i64 n) ∧ decide (0 ≤ n) = (l.any fun k=>k.hasB i == b) ∧ Below w.heap.size w w':=by
 obtain ⟨_,_,ba,o,V,e1,_,hl,hc,hn,hcell,hrec⟩:=zbh hL
 cases e1
 simp only [Pr.kids_node] at *
 unfold maxLen at hc
 have HC:=y21h hcell
 have HR:=y21h hrec
 have HN:=y21h hn
 have HH:=y21h H
 have HX:=y21h hx
 have HB2:=y21h hh
 clear hL hcell hrec hn H hx hh
 generalize hla:l.length = la at *
 have HLA:=y21h hla
 clear hla
 go_enter Tryz.func151,Tryz.ntmps151
 go_wp2_with fail
 go_loopw [8] (fun j wr=>zxk (fun k=>k.hasB i == b) l la w j wr) (fun j _=>la - (intOf j).toNat)
 case atStart=>exact ⟨0,Nat.zero_le _,rfl,by simp [Hid],Below.refl _ _⟩
 case round =>
   obtain ⟨k,hk,rfl,HS,hb⟩:=hrel
   by_cases hlt:k < la
   · obtain ⟨p,hp⟩:∃ p,l[k]? = some p:=⟨_,List.getElem?_eq_getElem (by rw [HLA.out];exact hlt)⟩
     obtain ⟨rfl,hB⟩:=HN.out (by omega)
     obtain ⟨oq,cq,hV⟩:=zam (HR.out k p hp)
     obtain ⟨c0,c1,c2,c3,c4⟩:=zc1 (w:=wr) (fun j u hu=>(hb.cell (p:=⟨ba,o + k * 5 + j,none⟩) hB).trans (HC.out k p hp j u hu))
     have L0:=(HR.out k p hp).later hb (Nat.le_refl _)
     rw [hV] at c4 L0
     have CC:=znz i r c st d b p (HH.out p (List.mem_of_getElem? hp)) (.slice oq p.kids.length cq) wr L0 bx bh (HX.out.below hb HX.out.lt) (HB2.out.below hb HB2.out.lt)
     have HB:=y21h hb
     have HS0:=HS.out
     cases hs:(p.hasB i == b)
     · have HF:=y21h (zsp (P:=fun k=>k.hasB i == b) hp HS0 hs)
       rw [hs] at CC
       have CC:=y21h CC
       clear hb hV L0 HS0 hs hp
       go_wp2_with (go_at_call 113;refine CC.out.mono ?_;rintro e w' ⟨rfl,hb'⟩)
       go_roundw
       case rel=>exact ⟨k + 1,by omega,by go_num,HF.out,HB.out.trans (hb'.mono HB.out.size)⟩
       case measure=>simp [intOf];omega
     · have HF:=y21h (zuz (P:=fun k=>k.hasB i == b) hp hs)
       rw [hs] at CC
       have CC:=y21h CC
       clear hb hV L0 HS0 hs hp
       go_wp2_with (go_at_call 113;refine CC.out.mono ?_;rintro e w' ⟨rfl,hb'⟩)
       go_ret
       exact ⟨_,rfl,by rw [HF.out];simp,HB.out.trans (hb'.mono HB.out.size)⟩
   · have HB:=y21h hb
     clear hb
     have e:k = la:=by omega
     have h7:=HS.out
     rw [Pr.take_all l (by rw [HLA.out];omega)] at h7
     have H7:=y21h h7
     clear h7 e
     go_wp2_with fail
     go_ret
     exact ⟨_,rfl,by rw [H7.out];simp,HB.out⟩
theorem zis (i:It) (r c st:Int) (d b:Bool) (l:List Pr) (H:∀ k ∈ l,zik i r c st d k) (oa:Option Addr) (cap:Nat) (w:World) (hL:LK w l (.slice oa l.length cap)) (bx bh:Nat) (hx:Has w bx (itC i r c st d)) (hh:Has w bh #[.bool b]) :
   Calls Tryz.prog 112 #[.slice oa l.length cap,.func (Fn.func 113) #[] #[.pointer (some ⟨bx,0,none⟩),.pointer (some ⟨bh,0,none⟩)]] w fun e w' =>
     e = .returned (.bool (l.any fun k=>k.hasB i == b)) ∧ Below w.heap.size w w':=by
 have C:=y21h (zmf i r c st d b l H oa cap w hL bx bh hx hh)
 clear H hL hx hh
 go_enter Tryz.func112,Tryz.ntmps112
 go_wp2_with (go_at_call 151;refine C.out.mono ?_;rintro e w' ⟨n,rfl,hn,hb⟩)
 go_ret
 exact ⟨zaa (by rw [← hn]),hb⟩
theorem zp7 (i:It) (r c st:Int) (d b:Bool) (l:List Pr) (H:∀ k ∈ l,zik i r c st d k) (oa:Option Addr) (cap:Nat) (w:World) (hL:LK w l (.slice oa l.length cap)) :
   Calls Tryz.prog 66 #[.slice oa l.length cap,itV i r c st d,.bool b] w fun e w' =>
     e = .returned (.bool (l.any fun k=>k.hasB i == b)) ∧ Below w.heap.size w w':=by
 have C:=y21h (zis i r c st d b l H oa cap ((w.alloc (.cells (itC i r c st d) 69)).alloc (.cells #[.bool b] 4)) ((hL.atAlloc _).atAlloc _) w.heap.size (w.heap.size + 1) ((Has.new w _ _).alloc _) ((Own.newAt _ _ _ (by simp)).has))
 clear H hL
 go_enter Tryz.func66,Tryz.ntmps66
 go_wp2_with (go_at_call 112;refine C.out.mono ?_;rintro e w' ⟨rfl,hb⟩)
 go_ret
 exact ⟨rfl,zal (zal hb)⟩
end Go.Proofs.YthnllikalobmeaaGreat
