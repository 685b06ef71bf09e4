/- Joined: VecL, RefKnow1, FarM, ItemM. -/
import Derived.Test.YtodfhabkdaiopaaGreatJ06
import Derived.Laws.StructEq
import Derived.Laws.Tables
import Derived.Laws.Cover2
import Derived.Test.YtodfhabkdaiopaaGreatJ07
import Derived.Deep.CutBlock
import Derived.Deep.DeepCutAuto
import Derived.Test.YtodfhabkdaiopaaGreatJ05
import Derived.Test.YtodfhabkdaiopaaGreatJ04
namespace Go.Proofs.YtodfhabkdaiopaaGreat
set_option linter.unusedVariables false
set_option linter.unusedSimpArgs false
set_option maxRecDepth 100000
set_option maxHeartbeats 8000000
open Go.RowKit
theorem y08h {p:Prop} (h:p):Go.RowKit.Hid p:=Lib.hid h
theorem zz8 (a0 a1 a2 a3 a4 a5 a6 a7 b0 b1 b2 b3 b4 b5 b6 b7:Int) (w:World):(Op.equalIn 10000 35 (.agg #[.int .i64 a0,.int .i64 a1,.int .i64 a2,.int .i64 a3,.int .i64 a4,.int .i64 a5,.int .i64 a6,.int .i64 a7]) (.agg #[.int .i64 b0,.int .i64 b1,.int .i64 b2,.int .i64 b3,.int .i64 b4,.int .i64 b5,.int .i64 b6,.int .i64 b7])).run Tryz.prog w=.ok (a0 == b0 && (a1 == b1 && (a2 == b2 && (a3 == b3 && (a4 == b4 && (a5 == b5 && (a6 == b6 && (a7 == b7)))))))) w:=by
 have ju:=Tryz.underlying3
 have ja:=Tryz.isAgg3
 have jz:=Tryz.sizeOf3
 rw [show (10000:Nat)=9999 + 1 from rfl,Op.equalIn]
 simp only [Sem.run_bind,run_underlying Tryz.underlying35,Result.andThen_ok]
 simp only [Std.Legacy.Range.forIn_eq_forIn_range',Std.Legacy.Range.size,Nat.sub_zero,Nat.add_sub_cancel,Nat.div_one,List.range'_succ,List.range'_zero,List.forIn_cons,List.forIn_nil]
 go_simp
 by_cases h0:a0=b0
 case neg=>simp [h0]
 by_cases h1:a1=b1
 case neg=>simp [h0,h1]
 by_cases h2:a2=b2
 case neg=>simp [h0,h1,h2]
 by_cases h3:a3=b3
 case neg=>simp [h0,h1,h2,h3]
 by_cases h4:a4=b4
 case neg=>simp [h0,h1,h2,h3,h4]
 by_cases h5:a5=b5
 case neg=>simp [h0,h1,h2,h3,h4,h5]
 by_cases h6:a6=b6
 case neg=>simp [h0,h1,h2,h3,h4,h5,h6]
 by_cases h7:a7=b7
 case neg=>simp [h0,h1,h2,h3,h4,h5,h6,h7]
 simp [h0,h1,h2,h3,h4,h5,h6,h7]
theorem zgf (A B:Nat→Int) (w:World):(Op.equalIn 10000 35 (vecV A) (vecV B)).run Tryz.prog w=.ok (eqV A B) w:=by
 have e:eqV A B=(A 0 == B 0 && (A 1 == B 1 && (A 2 == B 2 && (A 3 == B 3 && (A 4 == B 4 && (A 5 == B 5 && (A 6 == B 6 && A 7 == B 7))))))):=by
   unfold eqV
   simp [List.range_succ,Bool.and_assoc]
 rw [e]
 exact zz8 _ _ _ _ _ _ _ _ _ _ _ _ _ _ _ _ w
theorem zjd (l:List ByteArray) (s:ByteArray) (v:Value) (w:World) (hR:TxW w l v) :
   Calls Tryz.prog 103 #[v,.string s] w fun e w'=>e=.returned (.bool (za6 l s))∧w=w':=by
 obtain ⟨oa,cap,b,o,rfl,hr⟩:=hR
 have HR:=y08h hr
 have hcap:=hr.len
 have hmax:=hr.max
 unfold maxLen at hmax
 clear hr
 generalize hres:za6 l s=res at *
 have HRES:=y08h hres
 clear hres
 generalize hn:l.length=len at *
 have HN:=y08h hn
 clear hn
 go_enter Tryz.func103,Tryz.ntmps103
 go_wp2_with fail
 go_loopw [5] (fun i wr=>∃ k:Nat,k≤len∧i=.int .i64 k∧Hid (∀ j x,j < k→l[j]?=some x→(x.toList == s.toList)=false)∧wr=w) (fun i _=>len - (intOf i).toNat)
 case atStart=>exact ⟨0,Nat.zero_le _,rfl,fun j x hj=>absurd hj (by omega),rfl⟩
 case round =>
   obtain ⟨k,hk,rfl,HS,rfl⟩:=hrel
   by_cases hlt:k < len
   · obtain ⟨x,hx⟩:∃ x,l[k]?=some x:=⟨_,List.getElem?_eq_getElem (by rw [HN.out];exact hlt)⟩
     obtain ⟨rfl,hb0⟩:=HR.out.at0 (by rw [HN.out];omega)
     have c0:=HR.out.cell k x hx
     cases ht:(x.toList == s.toList)
     · have HS2:=y08h (show ∀ j x,j < k + 1→l[j]?=some x→(x.toList == s.toList)=false from fun j y hj hy=>by
         by_cases e:j=k
         · subst e;rw [hx] at hy;cases hy;exact ht
         · exact HS.out j y (by omega) hy)
       clear hx
       go_wp2_with fail
       go_roundw
       case rel=>exact ⟨k + 1,by omega,by go_num,HS2.out,by first | rfl | trivial⟩
       case measure=>simp [intOf];omega
     · have E:=y08h (show res=true by
         rw [← HRES.out];unfold za6;rw [List.any_eq_true]
         exact ⟨x,List.mem_of_getElem? hx,ht⟩)
       clear hx
       go_wp2_with fail
       go_ret
       exact ⟨zac E.out.symm,rfl⟩
   · have E:=y08h (show res=false by
       rw [← HRES.out];unfold za6;rw [List.any_eq_false]
       intro x hx
       obtain ⟨j,hj,e⟩:=List.mem_iff_getElem.1 hx
       have:=HS.out j x (by have:=HN.out;omega) (by rw [List.getElem?_eq_getElem hj,e])
       simp [this])
     go_wp2_with fail
     go_ret
     exact ⟨zac E.out.symm,rfl⟩
def zzs (l:List ByteArray) (s:ByteArray) (len:Nat) (w:World) (lv pv iv:Value) (wr:World):Prop :=
 ∃ (k:Nat) (sv:Value) (p:Bool),k≤len∧iv=.int .i64 k∧sv=lv∧pv=.bool p∧Hid (p=(insF s (l.take k)).2)∧Hid ((insF s (l.take k)).1.length≤k + 1)∧Hid (OwnT wr w.heap.size (insF s (l.take k)).1 sv)∧Hid (Below w.heap.size w wr)
theorem ztw {s:ByteArray} {l:List ByteArray} {k:Nat} {a:ByteArray} (h:l[k]?=some a):insF s (l.take (k + 1))=za3 s (insF s (l.take k)) a:=by
 unfold insF;rw [zej h,List.foldl_append];rfl
theorem zv4 (s:ByteArray) (l:List ByteArray):(insF s l).1.length≤l.length + (if (insF s l).2=true then 1 else 0):=by
 have:∀ (l:List ByteArray) (o:List ByteArray × Bool),(l.foldl (za3 s) o).1.length + (if o.2=true then 1 else 0)≤o.1.length + l.length + (if (l.foldl (za3 s) o).2=true then 1 else 0):=by
   intro l
   induction l with
   | nil=>intro o;obtain ⟨o1,o2⟩:=o;cases o2 <;> simp
   | cons a l ih =>
     intro o
     rw [List.foldl_cons]
     have h1:=ih (za3 s o a)
     have h2:(za3 s o a).1.length + (if o.2=true then 1 else 0)≤o.1.length + 1 + (if (za3 s o a).2=true then 1 else 0):=by
       unfold za3
       obtain ⟨o1,o2⟩:=o
       cases o2 <;> cases hl:leB s a <;> cases ha:(a.toList == s.toList) <;> simp <;> omega
     simp only [List.length_cons]
     omega
 have:=this l ([],false)
 unfold insF
 simp only [List.length_nil] at this
 simp at this
 omega
theorem zoh (l:List ByteArray) (s:ByteArray) (v:Value) (w:World) (hR:TxW w l v) (hlen:l.length≤10000) :
   Calls Tryz.prog 235 #[v,.string s] w fun e w'=>∃ v',e=.returned v'∧OwnT w' w.heap.size (insB l s) v'∧Below w.heap.size w w':=by
 obtain ⟨oa,cap,b,o,rfl,hr⟩:=hR
 obtain ⟨i0,hi,hz0,hz1,hz2⟩:=info_parts zfy
 have HR:=y08h hr
 have hcap:=hr.len
 have hmax:=hr.max
 unfold maxLen at hmax
 clear hr
 generalize hn:l.length=len at *
 have HN:=y08h hn
 clear hn
 go_enter Tryz.func235,Tryz.ntmps235
 go_wp2_with fail
 go_loopw [5,6,7] (fun lv pv iv wr=>zzs l s len w lv pv iv wr) (fun _ _ iv _=>len - (intOf iv).toNat)
 case atStart=>exact ⟨0,_,false,Nat.zero_le _,rfl,rfl,rfl,by simp [Hid,insF],by simp [Hid,insF],by unfold Hid;exact OwnT.nil _ _,Below.refl _ _⟩
 case round =>
   obtain ⟨k,sv,p,hk,rfl,rfl,rfl,HP,HL,HO,HB⟩:=hrel
   by_cases hlt:k < len
   · obtain ⟨a,ha⟩:∃ a,l[k]?=some a:=⟨_,List.getElem?_eq_getElem (by rw [HN.out];exact hlt)⟩
     obtain ⟨rfl,hb0⟩:=HR.out.at0 (by rw [HN.out];omega)
     have c0:=(HB.out.cell (p:=⟨b,o + k,none⟩) hb0).trans (HR.out.cell k a ha)
     have zb:=Nat.lt_of_lt_of_le hb0 HB.out.size
     have zw:=HB.out.size
     have HF:=y08h (ztw (s:=s) ha)
     have HLN:=y08h (Nat.le_trans (zv4 s (l.take (k + 1))) (show _≤k + 1 + 1 by rw [List.length_take];split <;> omega))
     have hlk:=HL.out
     have HA:=y08h ha
     clear ha
     generalize hO:(insF s (l.take k)).1=out at *
     have HFE:=y08h (show insF s (l.take (k + 1))=za3 s (out,p) a by rw [HF.out,← hO,HP.out])
     have HK:=y08h HL.out
     clear hO HF HP HL
     cases hle:leB s a <;> cases hea:(a.toList == s.toList) <;> cases p
     · have HE:=y08h (show insF s (l.take (k + 1))=(out ++ [a],false) by rw [HFE.out];simp [za3,hle,hea])
       clear HFE
       unfold leB at hle
       have HP4:=y08h (HO.out.alloc (.cells #[.string a] 9))
       have HQ4:=y08h (HB.out.alloc zw (.cells #[.string a] 9))
       have hown4:(wr.alloc (.cells #[.string a] 9)).ownsRow (w.heap.size) 9 1 sv (out).length (txC (out)):=HP4.out
       go_wp2_with (first | (at_builtin;refine wpList_append_lies _ (by rfl) _ _ _ (by rfl) (w.heap.size) 9 i0 _ 1 16 Tryz.underlying160 hi hz0 hz1 hz2 rfl (by omega) sv (out).length (txC (out)) (by rfl) hown4 ⟨wr.heap.size,0,none⟩ 1 1 [.string a] (by rfl) (by rfl) zfe (oneT a) (by omega) (by unfold maxLen;omega) (by omega) (by simp;omega) (wr.heap.size + 1) (by simp) ?_;intro g4 cap4 w4 hown3 hgrow hat hlt3;have HO4:=y08h (OwnT.push hown3 rfl);have HB4:=y08h (zcy HP4.out HQ4.out (by omega) hgrow HQ4.out.size);have zw4:=HB4.out.size;clear hown4 hown3 hgrow hat hlt3 HP4 HQ4;have c4:=(HB4.out.cell (p:=⟨b,o + k,none⟩) hb0).trans (HR.out.cell k a HA.out);have zb4:=Nat.lt_of_lt_of_le hb0 HB4.out.size))
       go_roundw
       case rel=>exact ⟨k + 1,_,false,by omega,by go_num,rfl,rfl,y08h (by rw [HE.out]),HLN,y08h (by rw [HE.out];first | exact HO4.out | (have h:=HO4.out;simp only [List.length_append,List.length_cons,List.length_nil] at h;exact h)),HB4⟩
       case measure=>simp [intOf];omega
     · have HE:=y08h (show insF s (l.take (k + 1))=(out ++ [a],true) by rw [HFE.out];simp [za3,hle,hea])
       clear HFE
       unfold leB at hle
       have HP4:=y08h (HO.out.alloc (.cells #[.string a] 9))
       have HQ4:=y08h (HB.out.alloc zw (.cells #[.string a] 9))
       have hown4:(wr.alloc (.cells #[.string a] 9)).ownsRow (w.heap.size) 9 1 sv (out).length (txC (out)):=HP4.out
       go_wp2_with (first | (at_builtin;refine wpList_append_lies _ (by rfl) _ _ _ (by rfl) (w.heap.size) 9 i0 _ 1 16 Tryz.underlying160 hi hz0 hz1 hz2 rfl (by omega) sv (out).length (txC (out)) (by rfl) hown4 ⟨wr.heap.size,0,none⟩ 1 1 [.string a] (by rfl) (by rfl) zfe (oneT a) (by omega) (by unfold maxLen;omega) (by omega) (by simp;omega) (wr.heap.size + 1) (by simp) ?_;intro g4 cap4 w4 hown3 hgrow hat hlt3;have HO4:=y08h (OwnT.push hown3 rfl);have HB4:=y08h (zcy HP4.out HQ4.out (by omega) hgrow HQ4.out.size);have zw4:=HB4.out.size;clear hown4 hown3 hgrow hat hlt3 HP4 HQ4;have c4:=(HB4.out.cell (p:=⟨b,o + k,none⟩) hb0).trans (HR.out.cell k a HA.out);have zb4:=Nat.lt_of_lt_of_le hb0 HB4.out.size))
       go_roundw
       case rel=>exact ⟨k + 1,_,true,by omega,by go_num,rfl,rfl,y08h (by rw [HE.out]),HLN,y08h (by rw [HE.out];first | exact HO4.out | (have h:=HO4.out;simp only [List.length_append,List.length_cons,List.length_nil] at h;exact h)),HB4⟩
       case measure=>simp [intOf];omega
     · have HE:=y08h (show insF s (l.take (k + 1))=(out,false) by rw [HFE.out];simp [za3,hle,hea])
       clear HFE
       unfold leB at hle
       go_wp2_with fail
       go_roundw
       case rel=>exact ⟨k + 1,_,false,by omega,by go_num,rfl,rfl,y08h (by rw [HE.out]),HLN,y08h (by rw [HE.out];first | exact HO.out | (have h:=HO.out;simp only [List.length_append,List.length_cons,List.length_nil] at h;exact h)),HB⟩
       case measure=>simp [intOf];omega
     · have HE:=y08h (show insF s (l.take (k + 1))=(out,true) by rw [HFE.out];simp [za3,hle,hea])
       clear HFE
       unfold leB at hle
       go_wp2_with fail
       go_roundw
       case rel=>exact ⟨k + 1,_,true,by omega,by go_num,rfl,rfl,y08h (by rw [HE.out]),HLN,y08h (by rw [HE.out];first | exact HO.out | (have h:=HO.out;simp only [List.length_append,List.length_cons,List.length_nil] at h;exact h)),HB⟩
       case measure=>simp [intOf];omega
     · have HE:=y08h (show insF s (l.take (k + 1))=(out ++ [s] ++ [a],true) by rw [HFE.out];simp [za3,hle,hea])
       clear HFE
       unfold leB at hle
       have hlk1:(out ++ [s]).length=(out).length + 1:=by simp
       have HP4:=y08h (HO.out.alloc (.cells #[.string s] 9))
       have HQ4:=y08h (HB.out.alloc zw (.cells #[.string s] 9))
       have hown4:(wr.alloc (.cells #[.string s] 9)).ownsRow (w.heap.size) 9 1 sv (out).length (txC (out)):=HP4.out
       go_wp2_with (first | (at_builtin;refine wpList_append_lies _ (by rfl) _ _ _ (by rfl) (w.heap.size) 9 i0 _ 1 16 Tryz.underlying160 hi hz0 hz1 hz2 rfl (by omega) sv (out).length (txC (out)) (by rfl) hown4 ⟨wr.heap.size,0,none⟩ 1 1 [.string s] (by rfl) (by rfl) zfe (oneT s) (by omega) (by unfold maxLen;omega) (by omega) (by simp;omega) (wr.heap.size + 1) (by simp) ?_;intro g4 cap4 w4 hown3 hgrow hat hlt3;have HO4:=y08h (OwnT.push hown3 rfl);have HB4:=y08h (zcy HP4.out HQ4.out (by omega) hgrow HQ4.out.size);have zw4:=HB4.out.size;clear hown4 hown3 hgrow hat hlt3 HP4 HQ4;have c4:=(HB4.out.cell (p:=⟨b,o + k,none⟩) hb0).trans (HR.out.cell k a HA.out);have zb4:=Nat.lt_of_lt_of_le hb0 HB4.out.size;have HP5:=y08h (HO4.out.alloc (.cells #[.string a] 9));have HQ5:=y08h (HB4.out.alloc zw4 (.cells #[.string a] 9));have hown5:(w4.alloc (.cells #[.string a] 9)).ownsRow (w.heap.size) 9 1 (.slice (some ⟨g4,0,none⟩) ((out).length + 1) cap4) (out ++ [s]).length (txC (out ++ [s])):=HP5.out) | (at_builtin;refine wpList_append_lies _ (by rfl) _ _ _ (by rfl) (w.heap.size) 9 i0 _ 1 16 Tryz.underlying160 hi hz0 hz1 hz2 rfl (by omega) (.slice (some ⟨g4,0,none⟩) ((out).length + 1) cap4) (out ++ [s]).length (txC (out ++ [s])) (by rfl) hown5 ⟨w4.heap.size,0,none⟩ 1 1 [.string a] (by rfl) (by rfl) zfe (oneT a) (by omega) (by unfold maxLen;omega) (by omega) (by simp;omega) (w4.heap.size + 1) (by simp) ?_;intro g5 cap5 w5 hown3 hgrow hat hlt3;have HO5:=y08h (OwnT.push hown3 rfl);have HB5:=y08h (zcy HP5.out HQ5.out (by omega) hgrow HQ5.out.size);have zw5:=HB5.out.size;clear hown5 hown3 hgrow hat hlt3 HP5 HQ5;have c5:=(HB5.out.cell (p:=⟨b,o + k,none⟩) hb0).trans (HR.out.cell k a HA.out);have zb5:=Nat.lt_of_lt_of_le hb0 HB5.out.size))
       go_roundw
       case rel=>exact ⟨k + 1,_,true,by omega,by go_num,rfl,rfl,y08h (by rw [HE.out]),HLN,y08h (by rw [HE.out];first | exact HO5.out | (have h:=HO5.out;simp only [List.length_append,List.length_cons,List.length_nil] at h;exact h)),HB5⟩
       case measure=>simp [intOf];omega
     · have HE:=y08h (show insF s (l.take (k + 1))=(out ++ [a],true) by rw [HFE.out];simp [za3,hle,hea])
       clear HFE
       unfold leB at hle
       have HP4:=y08h (HO.out.alloc (.cells #[.string a] 9))
       have HQ4:=y08h (HB.out.alloc zw (.cells #[.string a] 9))
       have hown4:(wr.alloc (.cells #[.string a] 9)).ownsRow (w.heap.size) 9 1 sv (out).length (txC (out)):=HP4.out
       go_wp2_with (first | (at_builtin;refine wpList_append_lies _ (by rfl) _ _ _ (by rfl) (w.heap.size) 9 i0 _ 1 16 Tryz.underlying160 hi hz0 hz1 hz2 rfl (by omega) sv (out).length (txC (out)) (by rfl) hown4 ⟨wr.heap.size,0,none⟩ 1 1 [.string a] (by rfl) (by rfl) zfe (oneT a) (by omega) (by unfold maxLen;omega) (by omega) (by simp;omega) (wr.heap.size + 1) (by simp) ?_;intro g4 cap4 w4 hown3 hgrow hat hlt3;have HO4:=y08h (OwnT.push hown3 rfl);have HB4:=y08h (zcy HP4.out HQ4.out (by omega) hgrow HQ4.out.size);have zw4:=HB4.out.size;clear hown4 hown3 hgrow hat hlt3 HP4 HQ4;have c4:=(HB4.out.cell (p:=⟨b,o + k,none⟩) hb0).trans (HR.out.cell k a HA.out);have zb4:=Nat.lt_of_lt_of_le hb0 HB4.out.size))
       go_roundw
       case rel=>exact ⟨k + 1,_,true,by omega,by go_num,rfl,rfl,y08h (by rw [HE.out]),HLN,y08h (by rw [HE.out];first | exact HO4.out | (have h:=HO4.out;simp only [List.length_append,List.length_cons,List.length_nil] at h;exact h)),HB4⟩
       case measure=>simp [intOf];omega
     · have HE:=y08h (show insF s (l.take (k + 1))=(out ++ [s],true) by rw [HFE.out];simp [za3,hle,hea])
       clear HFE
       unfold leB at hle
       have HP4:=y08h (HO.out.alloc (.cells #[.string s] 9))
       have HQ4:=y08h (HB.out.alloc zw (.cells #[.string s] 9))
       have hown4:(wr.alloc (.cells #[.string s] 9)).ownsRow (w.heap.size) 9 1 sv (out).length (txC (out)):=HP4.out
       go_wp2_with (first | (at_builtin;refine wpList_append_lies _ (by rfl) _ _ _ (by rfl) (w.heap.size) 9 i0 _ 1 16 Tryz.underlying160 hi hz0 hz1 hz2 rfl (by omega) sv (out).length (txC (out)) (by rfl) hown4 ⟨wr.heap.size,0,none⟩ 1 1 [.string s] (by rfl) (by rfl) zfe (oneT s) (by omega) (by unfold maxLen;omega) (by omega) (by simp;omega) (wr.heap.size + 1) (by simp) ?_;intro g4 cap4 w4 hown3 hgrow hat hlt3;have HO4:=y08h (OwnT.push hown3 rfl);have HB4:=y08h (zcy HP4.out HQ4.out (by omega) hgrow HQ4.out.size);have zw4:=HB4.out.size;clear hown4 hown3 hgrow hat hlt3 HP4 HQ4;have c4:=(HB4.out.cell (p:=⟨b,o + k,none⟩) hb0).trans (HR.out.cell k a HA.out);have zb4:=Nat.lt_of_lt_of_le hb0 HB4.out.size))
       go_roundw
       case rel=>exact ⟨k + 1,_,true,by omega,by go_num,rfl,rfl,y08h (by rw [HE.out]),HLN,y08h (by rw [HE.out];first | exact HO4.out | (have h:=HO4.out;simp only [List.length_append,List.length_cons,List.length_nil] at h;exact h)),HB4⟩
       case measure=>simp [intOf];omega
     · have HE:=y08h (show insF s (l.take (k + 1))=(out,true) by rw [HFE.out];simp [za3,hle,hea])
       clear HFE
       unfold leB at hle
       go_wp2_with fail
       go_roundw
       case rel=>exact ⟨k + 1,_,true,by omega,by go_num,rfl,rfl,y08h (by rw [HE.out]),HLN,y08h (by rw [HE.out];first | exact HO.out | (have h:=HO.out;simp only [List.length_append,List.length_cons,List.length_nil] at h;exact h)),HB⟩
       case measure=>simp [intOf];omega
   · have e:len=k:=by omega
     subst e
     have h1:=HO.out
     have h2:=HP.out
     have h3:=HL.out
     rw [List.take_of_length_le (by rw [HN.out];omega)] at h1 h2 h3
     have zw:=HB.out.size
     have HI:=y08h (show insB l s=if p=true then (insF s l).1 else (insF s l).1 ++ [s] by rw [h2];rfl)
     clear h2 HO HP HL
     generalize (insF s l).1=out at *
     have HO:=y08h h1
     clear h1
     cases p
     · have HP4:=y08h (HO.out.alloc (.cells #[.string s] 9))
       have HQ4:=y08h (HB.out.alloc zw (.cells #[.string s] 9))
       have hown4:(wr.alloc (.cells #[.string s] 9)).ownsRow (w.heap.size) 9 1 sv (out).length (txC (out)):=HP4.out
       go_wp2_with (first | (at_builtin;refine wpList_append_lies _ (by rfl) _ _ _ (by rfl) (w.heap.size) 9 i0 _ 1 16 Tryz.underlying160 hi hz0 hz1 hz2 rfl (by omega) sv (out).length (txC (out)) (by rfl) hown4 ⟨wr.heap.size,0,none⟩ 1 1 [.string s] (by rfl) (by rfl) zfe (oneT s) (by omega) (by unfold maxLen;omega) (by omega) (by simp;omega) (wr.heap.size + 1) (by simp) ?_;intro g4 cap4 w4 hown3 hgrow hat hlt3;have HO4:=y08h (OwnT.push hown3 rfl);have HB4:=y08h (zcy HP4.out HQ4.out (by omega) hgrow HQ4.out.size);have zw4:=HB4.out.size;clear hown4 hown3 hgrow hat hlt3 HP4 HQ4))
       go_ret
       exact ⟨_,rfl,by rw [HI.out];exact HO4.out,HB4.out⟩
     · go_wp2_with fail
       go_ret
       exact ⟨_,rfl,by rw [HI.out];exact HO.out,HB.out⟩
def farV (a b c d:Nat):Int:=if mayB a b && mayB c d then (Fl.iv a - Fl.iv c) * (Fl.iv a - Fl.iv c) + (Fl.iv b - Fl.iv d) * (Fl.iv b - Fl.iv d) else -1
theorem zec {a b:Nat} (h:mayB a b=true):Fl.IsInt a (Fl.iv a)∧Fl.IsInt b (Fl.iv b)∧(Fl.iv a).natAbs≤1000∧(Fl.iv b).natAbs≤1000:=by
 unfold mayB at h
 simp only [Bool.and_eq_true] at h
 have h1:=Fl.wb_int h.1
 have h2:=Fl.wb_int h.2
 exact ⟨h1.1,h2.1,h1.2,h2.2⟩
theorem zi1 {p:Int} (h1:-2000≤p) (h2:p≤2000):0≤p * p∧p * p≤4000000:=by
 constructor
 · rcases Int.lt_or_le p 0 with h | h
   · have:=Int.mul_nonneg_of_nonpos_of_nonpos (Int.le_of_lt h) (Int.le_of_lt h);exact this
   · exact Int.mul_nonneg h h
 · have:=Int.mul_nonneg (show 0≤2000 - p by omega) (show 0≤2000 + p by omega)
   have e:(2000 - p) * (2000 + p)=4000000 - p * p:=by
     rw [Int.sub_mul,Int.mul_add,Int.mul_add,Int.mul_comm 2000 p];omega
   omega
theorem zyn (a b c d:Nat):-1≤farV a b c d∧farV a b c d≤8000000:=by
 unfold farV
 split
 · rename_i h
   simp only [Bool.and_eq_true] at h
   obtain ⟨_,_,b1,b2⟩:=zec h.1
   obtain ⟨_,_,b3,b4⟩:=zec h.2
   have h1:=zi1 (p:=Fl.iv a - Fl.iv c) (by omega) (by omega)
   have h2:=zi1 (p:=Fl.iv b - Fl.iv d) (by omega) (by omega)
   omega
 · omega
def zix (a b c d:Nat) (n:Int):Bool:=decide (0≤farV a b c d) && decide (farV a b c d≤n)
def mayT (i:Itm):Bool:=mayI i.id i.r i.c i.st i.kd i.num i.x i.y
def cmpT (a b:Itm):Int:=cmpV a.st a.r a.c b.st b.r b.c
def behT (a b:Itm):Bool:=decide (cmpT a b=1)
def zds (a b:Itm):Bool:=zno a.id a.r a.c a.st a.kd a.num a.x a.y a.d b.id b.r b.c b.st b.kd b.num b.x b.y b.d
theorem zlg {i:Itm} (hx:feq i.x i.x=true) (hy:feq i.y i.y=true):zds i i=true:=by
 unfold zds zno
 simp [hx,hy]
theorem zeo {i:Itm} (h:mayT i=true):feq i.x i.x=true∧feq i.y i.y=true:=by
 unfold mayT mayI mayB at h
 simp only [Bool.and_eq_true] at h
 exact ⟨zgu h.2.2.2.2.2.1,zgu h.2.2.2.2.2.2⟩
theorem zhs (i:Itm) (w:World) (hi:i.id.size≤maxLen) (hk:i.kd.size≤maxLen) :
   Calls Tryz.prog 67 #[iV i] w fun e w'=>e=.returned (.bool (mayT i))∧Below w.heap.size w w' :=
 zo6 i.id i.r i.c i.st i.kd i.num i.x i.y i.d w hi hk
theorem zgp (a b:Itm) (w:World) :
   Calls Tryz.prog 69 #[iV a,iV b] w fun e w'=>e=.returned (.bool (behT a b))∧Below w.heap.size w w' :=
 zns a.id a.r a.c a.st a.kd a.num a.x a.y a.d b.id b.r b.c b.st b.kd b.num b.x b.y b.d w
theorem zjh (a b:Itm) (w:World) :
   Calls Tryz.prog 154 #[iV a,iV b] w fun e w'=>e=.returned (.bool (zds a b))∧Below w.heap.size w w' :=
 zni a.id a.r a.c a.st a.kd a.num a.x a.y a.d b.id b.r b.c b.st b.kd b.num b.x b.y b.d w
end Go.Proofs.YtodfhabkdaiopaaGreat
