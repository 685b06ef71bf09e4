/- Joined: RefList2, RefList3, Fl, PMay. -/
import Derived.Test.YthnllikalobmeaaGreatJ04
import Derived.Laws.ComplexArith
import Derived.Test.YthnllikalobmeaaGreatRows
import Derived.WalkKit
import Derived.WalkSpells
import Derived.WalkLawsBesides
import Derived.Lib.Hide
namespace Go.Proofs.YthnllikalobmeaaGreat
set_option linter.unusedVariables false
set_option linter.unusedSimpArgs false
set_option maxRecDepth 100000
set_option maxHeartbeats 8000000
open Go.RowKit
theorem y05h {p:Prop} (h:p):Hid p:=Lib.hid h
def upB (a b:Itm):Bool:=!(Op.bytesLess b.id.toList a.id.toList || b.id.toList == a.id.toList)
def zcg:List Itm → Bool
 | a :: b :: l=>upB a b && zcg (b :: l)
 | _=>true
theorem rises_iff {l:List Itm}:zcg l = true ↔ ∀ j a b,l[j]? = some a → l[j + 1]? = some b → upB a b = true:=by
 induction l with
 | nil=>simp [zcg]
 | cons a l ih =>
   cases l with
   | nil=>simp [zcg]
   | cons b l =>
     simp only [zcg,Bool.and_eq_true,ih]
     constructor
     · rintro ⟨h1,h2⟩ j x y hx hy
       cases j with
       | zero=>simp at hx hy;subst hx hy;exact h1
       | succ j=>exact h2 j x y (by simpa using hx) (by simpa using hy)
     · intro h
       exact ⟨h 0 a b rfl rfl,fun j x y hx hy=>h (j + 1) x y (by simpa using hx) (by simpa using hy)⟩
theorem zje {l:List Itm} {j:Nat} {a b:Itm} (ha:l[j]? = some a) (hb:l[j + 1]? = some b) (h:upB a b = false):zcg l = false:=by
 cases e:zcg l with
 | false=>rfl
 | true=>rw [rises_iff.1 e j a b ha hb] at h;cases h
def z11 (l:List Itm) (len:Nat) (w:World) (iv:Value) (wr:World):Prop :=
 ∃ m:Nat,m ≤ len ∧ iv = .int .i64 ((m:Int) + 1) ∧ Hid (∀ j a b,j < m → l[j]? = some a → l[j + 1]? = some b → upB a b = true) ∧ Hid (Below w.heap.size w wr)
theorem zqv (l:List Itm) (v:Value) (w:World) (hR:Row 8 ic w l v) :
   Calls Tryz.prog 88 #[v] w fun e w'=>e = .returned (.bool (zcg l)) ∧ Below w.heap.size w w':=by
 obtain ⟨oa,cap,b,o,rfl,hr⟩:=hR
 have HR:=y05h hr
 have hcap:=hr.len
 have hmax:=hr.max
 unfold maxLen at hmax
 clear hr
 generalize hn:l.length = len at *
 have HN:=y05h hn
 clear hn
 go_enter Tryz.func88,Tryz.ntmps88
 go_wp2_with fail
 go_loopw [3] (fun iv wr=>z11 l len w iv wr) (fun iv _=>len - (intOf iv).toNat)
 case atStart=>exact ⟨0,Nat.zero_le _,rfl,fun j a b hj=>absurd hj (by omega),Below.refl _ _⟩
 case round =>
   obtain ⟨m,hm,rfl,HS,HB⟩:=hrel
   by_cases hlt:m + 1 < len
   · obtain ⟨i,hi9⟩:∃ i,l[m]? = some i:=⟨_,List.getElem?_eq_getElem (by rw [HN.out];omega)⟩
     obtain ⟨y,hy9⟩:∃ y,l[m + 1]? = some y:=⟨_,List.getElem?_eq_getElem (by rw [HN.out];omega)⟩
     obtain ⟨rfl,hb0⟩:=HR.out.at0 (by rw [HN.out];omega)
     have c0:=(zav (w:=wr) (fun j u hu=>(HB.out.cell (p:=⟨b,o + m * 8 + j,none⟩) hb0).trans (HR.out.cell m i hi9 j u hu))).1
     have d0:=(zav (w:=wr) (fun j u hu=>(HB.out.cell (p:=⟨b,o + (m + 1) * 8 + j,none⟩) hb0).trans (HR.out.cell (m + 1) y hy9 j u hu))).1
     have r0:=fun dd os=>cell_regrown c0 dd os
     have r1:=fun dd os=>cell_regrown d0 dd os
     have k0:(0:Int) ≤ (m:Int):=by omega
     have k1:(m:Int) < (len:Int):=by omega
     have k2:(m:Int) + 1 < (len:Int):=by omega
     have k3:(0:Int) ≤ (m:Int) + 1:=by omega
     have k4:(m:Int) + 1 - 1 = (m:Int):=by omega
     have k5:((m:Int) + 1).toNat = m + 1:=by omega
     have HI:=y05h hi9
     have HY:=y05h hy9
     clear c0 d0 hi9 hy9
     cases ht:upB i y
     · have E:=y05h (zje HI.out HY.out ht)
       have hg:(Op.bytesLess y.id.toList i.id.toList || y.id.toList == i.id.toList) = true:=by unfold upB at ht;rw [Bool.not_eq_false'] at ht;exact ht
       clear ht
       go_wp2_with fail
       refine wp_region_quiet_below (by kernel_rfl) (by kernel_rfl) ?_
       repeat (first | go_big_quiet_step (fail) | quiet_step (fail))
       refine wpQuiet_nil ?_
       intro w7 hw'
       have hb':=y05h (zac hw')
       clear hw'
       go_wp2_with fail
       go_ret
       exact ⟨zaa E.out.symm,HB.out.trans (hb'.out.mono HB.out.size)⟩
     · have HS2:=y05h (show ∀ j a b,j < m + 1 → l[j]? = some a → l[j + 1]? = some b → upB a b = true from fun j a b hj ha hb=>by
         by_cases e:j = m
         · subst e;rw [HI.out] at ha;rw [HY.out] at hb;cases ha;cases hb;exact ht
         · exact HS.out j a b (by omega) ha hb)
       have hg:(Op.bytesLess y.id.toList i.id.toList || y.id.toList == i.id.toList) = false:=by unfold upB at ht;rw [Bool.not_eq_true'] at ht;exact ht
       clear ht
       go_wp2_with fail
       refine wp_region_quiet_below (by kernel_rfl) (by kernel_rfl) ?_
       repeat (first | go_big_quiet_step (fail) | quiet_step (fail))
       refine wpQuiet_nil ?_
       intro w7 hw'
       have hb':=y05h (zac hw')
       clear hw'
       clear r0 r1
       go_wp2_with fail
       go_roundw
       case rel=>exact ⟨m + 1,by omega,by go_num,HS2.out,y05h (HB.out.trans (hb'.out.mono HB.out.size))⟩
       case measure=>simp [intOf];omega
   · have E:=y05h (rises_iff.2 fun j a b ha hb=>HS.out j a b (by have:=zbs hb;rw [HN.out] at this;omega) ha hb)
     go_wp2_with fail
     go_ret
     exact ⟨zaa E.out.symm,HB.out⟩
def AllI (P:Itm → Bool) (l:List Itm) (len:Nat) (w:World) (iv:Value) (wr:World):Prop :=
 ∃ k:Nat,k ≤ len ∧ iv = .int .i64 k ∧ Hid (∀ j a,j < k → l[j]? = some a → P a = true) ∧ Hid (Below w.heap.size w wr)
theorem zl3 {P:Itm → Bool} {l:List Itm} {k:Nat} {i:Itm} (h:∀ j a,j < k → l[j]? = some a → P a = true) (hi:l[k]? = some i) (hp:P i = true):∀ j a,j < k + 1 → l[j]? = some a → P a = true:=by
 intro j a hj ha
 by_cases e:j = k
 · subst e;rw [hi] at ha;cases ha;exact hp
 · exact h j a (by omega) ha
theorem zl4 {P:Itm → Bool} {l:List Itm} (h:∀ j a,j < l.length → l[j]? = some a → P a = true):l.all P = true:=by
 rw [List.all_eq_true]
 intro x hx
 obtain ⟨j,hj,e⟩:=List.mem_iff_getElem.1 hx
 exact h j x hj (by rw [List.getElem?_eq_getElem hj,e])
theorem zj5 {P:Itm → Bool} {l:List Itm} {k:Nat} {i:Itm} (hi:l[k]? = some i) (hp:P i = false):l.all P = false:=by
 rw [List.all_eq_false]
 exact ⟨i,List.mem_of_getElem? hi,by rw [hp];simp⟩
theorem zhk (mayF:Itm → Bool) (HM:∀ (i:Itm) (w:World),i.id.size ≤ maxLen → i.kd.size ≤ maxLen → Calls Tryz.prog 87 #[iV i] w fun e w'=>e = .returned (.bool (mayF i)) ∧ Below w.heap.size w w')
   (l:List Itm) (v:Value) (w:World) (hR:Row 8 ic w l v) :
   Calls Tryz.prog 41 #[v] w fun e w'=>e = .returned (.bool (l.all mayF && zcg l)) ∧ Below w.heap.size w w':=by
 have RI:=fun w' (hb:Below w.heap.size w w')=>y05h (zqv l v w' (hR.later hb))
 obtain ⟨oa,cap,b,o,rfl,hr⟩:=hR
 have HR:=y05h hr
 have hcap:=hr.len
 have hmax:=hr.max
 unfold maxLen at hmax
 clear hr
 generalize hn:l.length = len at *
 have HN:=y05h hn
 clear hn
 generalize hrs:zcg l = rs at *
 clear hrs
 go_enter Tryz.func41,Tryz.ntmps41
 go_wp2_with fail
 go_loopw [3] (fun iv wr=>AllI mayF l len w iv wr) (fun iv _=>len - (intOf iv).toNat)
 case atStart=>exact ⟨0,Nat.zero_le _,rfl,fun j a hj=>absurd hj (by omega),Below.refl _ _⟩
 case round =>
   obtain ⟨k,hk,rfl,HS,HB⟩:=hrel
   by_cases hlt:k < len
   · obtain ⟨i,hi9⟩:∃ i,l[k]? = some i:=⟨_,List.getElem?_eq_getElem (by rw [HN.out];omega)⟩
     obtain ⟨rfl,hb0⟩:=HR.out.at0 (by rw [HN.out];omega)
     obtain ⟨c0,c1,c2,c3,c4,c5,c6,c7⟩:=zav (w:=wr) (fun j u hu=>(HB.out.cell (p:=⟨b,o + k * 8 + j,none⟩) hb0).trans (HR.out.cell k i hi9 j u hu))
     have hok:=HR.out.ok i (List.mem_of_getElem? hi9)
     have C:=HM i wr hok.1 hok.2
     have HI:=y05h hi9
     clear hi9 hok
     cases ht:mayF i
     · have E:=y05h (zj5 HI.out ht)
       rw [ht] at C
       have C:=y05h C
       clear ht
       go_wp2_with fail
       refine C.out.mono ?_;rintro e w2 ⟨rfl,hb2⟩
       go_wp2_with fail
       go_ret
       exact ⟨zaa (by rw [E.out];rfl),HB.out.trans (hb2.mono HB.out.size)⟩
     · have HS2:=y05h (zl3 HS.out HI.out ht)
       rw [ht] at C
       have C:=y05h C
       clear ht
       go_wp2_with fail
       refine C.out.mono ?_;rintro e w2 ⟨rfl,hb2⟩
       have HB2:=y05h (HB.out.trans (hb2.mono HB.out.size))
       clear hb2
       go_wp2_with fail
       go_roundw
       case rel=>exact ⟨k + 1,by omega,by go_num,HS2.out,HB2⟩
       case measure=>simp [intOf];omega
   · have E:=y05h (zl4 (l:=l) fun j a hj ha=>HS.out j a (by rw [HN.out] at hj;omega) ha)
     have C:=y05h (RI wr HB.out)
     go_wp2_with fail
     refine C.out.out.mono ?_;rintro e w2 ⟨rfl,hb2⟩
     go_wp2_with fail
     go_ret
     exact ⟨zaa (by rw [E.out];rfl),HB.out.trans (hb2.mono HB.out.size)⟩
def zbt (f:Itm → Itm → Bool):List Itm → List Itm → Bool
 | [],[]=>true
 | a :: l,b :: m=>f a b && zbt f l m
 | _,_=>false
theorem zmu {f:Itm → Itm → Bool}:∀ {l m:List Itm},l.length ≠ m.length → zbt f l m = false
 | [],[],h=>absurd rfl h
 | [],_ :: _,_=>rfl
 | _ :: _,[],_=>rfl
 | a :: l,b :: m,h=>by
   simp only [zbt,Bool.and_eq_false_iff]
   exact .inr (zmu fun e=>h (by simp [e]))
theorem zig {f:Itm → Itm → Bool}:∀ {l m:List Itm},l.length = m.length → (zbt f l m = true ↔ ∀ (j:Nat) (a b:Itm),l[j]? = some a → m[j]? = some b → f a b = true)
 | [],[],_=>by simp [zbt]
 | [],_ :: _,h=>by simp at h
 | _ :: _,[],h=>by simp at h
 | a :: l,b :: m,h=>by
   simp only [zbt,Bool.and_eq_true]
   rw [zig (by simpa using h)]
   constructor
   · rintro ⟨h1,h2⟩ j x y hx hy
     cases j with
     | zero=>simp at hx hy;subst hx hy;exact h1
     | succ j=>exact h2 j x y (by simpa using hx) (by simpa using hy)
   · intro h
     exact ⟨h 0 a b rfl rfl,fun j x y hx hy=>h (j + 1) x y (by simpa using hx) (by simpa using hy)⟩
theorem zxw {f:Itm → Itm → Bool} {l m:List Itm} (hl:l.length = m.length) {j:Nat} {a b:Itm} (ha:l[j]? = some a) (hb:m[j]? = some b) (h:f a b = false):zbt f l m = false:=by
 cases e:zbt f l m with
 | false=>rfl
 | true=>rw [(zig hl).1 e j a b ha hb] at h;cases h
def zys (f:Itm → Itm → Bool) (l m:List Itm) (len:Nat) (w:World) (iv:Value) (wr:World):Prop :=
 ∃ k:Nat,k ≤ len ∧ iv = .int .i64 k ∧ Hid (∀ j a b,j < k → l[j]? = some a → m[j]? = some b → f a b = true) ∧ Hid (Below w.heap.size w wr)
theorem zeb (f:Itm → Itm → Bool) (HF:∀ (a b:Itm) (w:World),Calls Tryz.prog 59 #[iV a,iV b] w fun e w'=>e = .returned (.bool (f a b)) ∧ Below w.heap.size w w')
   (l m:List Itm) (v v':Value) (w:World) (hR:Row 8 ic w l v) (hM:Row 8 ic w m v') :
   Calls Tryz.prog 26 #[v,v'] w fun e w'=>e = .returned (.bool (zbt f l m)) ∧ Below w.heap.size w w':=by
 obtain ⟨oa,cap,b,o,rfl,hr⟩:=hR
 obtain ⟨oa',cap',b',o',rfl,hr'⟩:=hM
 have HR:=y05h hr
 have HR':=y05h hr'
 have hcap:=hr.len
 have hmax:=hr.max
 have hcap':=hr'.len
 have hmax':=hr'.max
 unfold maxLen at hmax hmax'
 clear hr hr'
 generalize hres:zbt f l m = res at *
 have HRES:=y05h hres
 clear hres
 generalize hn:l.length = len at *
 have HN:=y05h hn
 generalize hn':m.length = len' at *
 have HN':=y05h hn'
 clear hn hn'
 by_cases hne:len = len'
 case neg =>
   have E:=y05h (show res = false by rw [← HRES.out];exact zmu (by rw [HN.out,HN'.out];exact hne))
   go_enter Tryz.func26,Tryz.ntmps26
   go_wp2_with fail
   go_ret
   exact ⟨zaa E.out.symm,Below.refl _ _⟩
 subst hne
 go_enter Tryz.func26,Tryz.ntmps26
 go_wp2_with fail
 go_loopw [5] (fun iv wr=>zys f l m len w iv wr) (fun iv _=>len - (intOf iv).toNat)
 case atStart=>exact ⟨0,Nat.zero_le _,rfl,fun j a b hj=>absurd hj (by omega),Below.refl _ _⟩
 case round =>
   obtain ⟨k,hk,rfl,HS,HB⟩:=hrel
   by_cases hlt:k < len
   · obtain ⟨i,hi9⟩:∃ i,l[k]? = some i:=⟨_,List.getElem?_eq_getElem (by rw [HN.out];omega)⟩
     obtain ⟨y,hy9⟩:∃ y,m[k]? = some y:=⟨_,List.getElem?_eq_getElem (by rw [HN'.out];omega)⟩
     obtain ⟨rfl,hb0⟩:=HR.out.at0 (by rw [HN.out];omega)
     obtain ⟨rfl,hb0'⟩:=HR'.out.at0 (by rw [HN'.out];omega)
     obtain ⟨c0,c1,c2,c3,c4,c5,c6,c7⟩:=zav (w:=wr) (fun j u hu=>(HB.out.cell (p:=⟨b,o + k * 8 + j,none⟩) hb0).trans (HR.out.cell k i hi9 j u hu))
     obtain ⟨d0,d1,d2,d3,d4,d5,d6,d7⟩:=zav (w:=wr) (fun j u hu=>(HB.out.cell (p:=⟨b',o' + k * 8 + j,none⟩) hb0').trans (HR'.out.cell k y hy9 j u hu))
     have r0:=fun dd os=>cell_regrown c0 dd os
     have r1:=fun dd os=>cell_regrown c1 dd os
     have r2:=fun dd os=>cell_regrown c2 dd os
     have r3:=fun dd os=>cell_regrown c3 dd os
     have r4:=fun dd os=>cell_regrown c4 dd os
     have r5:=fun dd os=>cell_regrown c5 dd os
     have r6:=fun dd os=>cell_regrown c6 dd os
     have r7:=fun dd os=>cell_regrown c7 dd os
     have s0:=fun dd os=>cell_regrown d0 dd os
     have s1:=fun dd os=>cell_regrown d1 dd os
     have s2:=fun dd os=>cell_regrown d2 dd os
     have s3:=fun dd os=>cell_regrown d3 dd os
     have s4:=fun dd os=>cell_regrown d4 dd os
     have s5:=fun dd os=>cell_regrown d5 dd os
     have s6:=fun dd os=>cell_regrown d6 dd os
     have s7:=fun dd os=>cell_regrown d7 dd os
     have m1:=fun dd os=>y05h (Calls.regrown_of (HF i y (Sort.grow (redrawn wr dd) os)))
     have k0:(0:Int) ≤ (k:Int):=by omega
     have k1:(k:Int) < (len:Int):=by omega
     have HI:=y05h hi9
     have HY:=y05h hy9
     clear hi9 hy9 c0 d0 c1 d1 c2 d2 c3 d3 c4 d4 c5 d5 c6 d6 c7 d7
     cases ht:f i y
     · have E:=y05h (show res = false by rw [← HRES.out];exact zxw (by rw [HN.out,HN'.out]) HI.out HY.out ht)
       rw [ht] at m1
       clear ht
       go_wp2_with fail
       refine wp_region_quiet_below (by kernel_rfl) (by kernel_rfl) ?_
       repeat (first | go_big_quiet_step ((with_reducible exact (m1 _ _).out)) | quiet_step ((with_reducible exact (m1 _ _).out)))
       refine wpQuiet_nil ?_
       intro w7 hw'
       have hb':=y05h (zac hw')
       clear hw'
       clear m1
       go_wp2_with fail
       go_ret
       exact ⟨zaa E.out.symm,HB.out.trans (hb'.out.mono HB.out.size)⟩
     · have HS2:=y05h (show ∀ j a b,j < k + 1 → l[j]? = some a → m[j]? = some b → f a b = true from fun j a b hj ha hb=>by
         by_cases e:j = k
         · subst e;rw [HI.out] at ha;rw [HY.out] at hb;cases ha;cases hb;exact ht
         · exact HS.out j a b (by omega) ha hb)
       rw [ht] at m1
       clear ht
       go_wp2_with fail
       refine wp_region_quiet_below (by kernel_rfl) (by kernel_rfl) ?_
       repeat (first | go_big_quiet_step ((with_reducible exact (m1 _ _).out)) | quiet_step ((with_reducible exact (m1 _ _).out)))
       refine wpQuiet_nil ?_
       intro w7 hw'
       have hb':=y05h (zac hw')
       clear hw'
       clear m1 r0 s0 r1 s1 r2 s2 r3 s3 r4 s4 r5 s5 r6 s6 r7 s7
       go_wp2_with fail
       go_roundw
       case rel=>exact ⟨k + 1,by omega,by go_num,HS2.out,y05h (HB.out.trans (hb'.out.mono HB.out.size))⟩
       case measure=>simp [intOf];omega
   · have E:=y05h (show res = true by
       rw [← HRES.out,zig (by rw [HN.out,HN'.out])]
       exact fun j a b ha hb=>HS.out j a b (by have:=zbs ha;rw [HN.out] at this;omega) ha hb)
     go_wp2_with fail
     go_ret
     exact ⟨zaa E.out.symm,HB.out⟩
theorem znc (f:Itm → Itm → Bool) (HF:∀ (a b:Itm) (w:World),Calls Tryz.prog 59 #[iV a,iV b] w fun e w'=>e = .returned (.bool (f a b)) ∧ Below w.heap.size w w')
   (l m:List Itm) (v v':Value) (w:World) (hR:Row 8 ic w l v) (hM:Row 8 ic w m v') {c:Bool} (hc:zbt f l m = c) :
   Calls Tryz.prog 20 #[v,v'] w fun e w'=>e = .returned (.int .i64 (if c then 1 else 0)) ∧ Below w.heap.size w w':=by
 have C:=zeb f HF l m v v' w hR hM
 rw [hc] at C
 have C:=y05h C
 obtain ⟨oa,cap,b,o,rfl,hr⟩:=hR
 obtain ⟨oa',cap',b',o',rfl,hr'⟩:=hM
 clear hr hr' hc HF
 cases c
 all_goals
   go_enter Tryz.func20,Tryz.ntmps20
   go_wp2_with fail
   refine C.out.mono ?_;rintro e w2 ⟨rfl,hb2⟩
   go_wp2_with fail
   go_ret
   exact ⟨rfl,hb2⟩
def zci (f:Itm → Itm → Bool) (out:List Itm) (y:Itm):List Itm:=if (!(getI out y.id).2 || f y (getI out y.id).1) = true then putI out y else out
def zat (f:Itm → Itm → Bool) (a b:List Itm):List Itm:=b.foldl (zci f) a
theorem ztw {f:Itm → Itm → Bool} {a b:List Itm} {k:Nat} {y:Itm} (h:b[k]? = some y):zat f a (b.take (k + 1)) = zci f (zat f a (b.take k)) y:=by
 unfold zat;rw [zd2 h,List.foldl_append];rfl
theorem zcu (l:List Itm) (x:Itm):(putI l x).length ≤ l.length + 1:=by
 unfold putI
 simp only [List.length_append,List.length_cons,List.length_nil]
 have:(l.filter fun i=>lsB i.id x.id).length + (l.filter fun i=>gtB i.id x.id).length ≤ l.length:=by
   induction l with
   | nil=>simp
   | cons a l ih =>
     simp only [List.filter_cons]
     cases h1:lsB a.id x.id
     · cases gtB a.id x.id <;> simp <;> omega
     · have h2:gtB a.id x.id = false:=by
         unfold gtB
         unfold lsB at h1
         rw [h1];rfl
       rw [h2]
       simp
       omega
 omega
theorem zfb {l:List Itm} {x i:Itm} (h:i ∈ putI l x):i ∈ l ∨ i = x:=by
 unfold putI at h
 simp only [List.mem_append,List.mem_filter,List.mem_cons,List.not_mem_nil,or_false] at h
 rcases h with (h | h) | h
 · exact .inl h.1
 · exact .inr h
 · exact .inl h.1
theorem zx0 (f:Itm → Itm → Bool) (l:List Itm) (y:Itm):(zci f l y).length ≤ l.length + 1:=by
 unfold zci;split
 · exact zcu l y
 · omega
theorem zx1 {f:Itm → Itm → Bool} {l:List Itm} {y i:Itm} (h:i ∈ zci f l y):i ∈ l ∨ i = y:=by
 unfold zci at h;split at h
 · exact zfb h
 · exact .inl h
def zyl (F:Nat → List Itm) (len n0:Nat) (w:World) (lv iv:Value) (wr:World):Prop :=
 ∃ (k:Nat) (sv:Value),k ≤ len ∧ iv = .int .i64 k ∧ sv = lv ∧ Hid (Row 8 ic wr (F k) sv) ∧ Hid ((F k).length ≤ n0 + k) ∧ Hid (Below w.heap.size w wr)
theorem zif {P:Program} (w:World) (a:Addr):(storeCells a ([]:List Value)).run P w = .ok () w:=by simp [storeCells]
attribute [local go_sem] zif
theorem zkb (f:Itm → Itm → Bool) (HF:∀ (a b:Itm) (w:World),Calls Tryz.prog 105 #[iV a,iV b] w fun e w'=>e = .returned (.bool (f a b)) ∧ Below w.heap.size w w')
   (l m:List Itm) (v v':Value) (w:World) (hR:Row 8 ic w l v) (hM:Row 8 ic w m v') (h1:l.length ≤ 1000) (h2:m.length ≤ 1000) :
   Calls Tryz.prog 58 #[v,v'] w fun e w'=>∃ v2,e = .returned v2 ∧ Row 8 ic w' (zat f l m) v2 ∧ Below w.heap.size w w':=by
 obtain ⟨oa,cap,b,o,rfl,hr⟩:=hR
 obtain ⟨oa',cap',b',o',rfl,hr'⟩:=hM
 obtain ⟨i0,hi,hz0,hz1,hz2⟩:=info_parts zca
 have HR:=y05h hr
 have HR':=y05h hr'
 have hcap:=hr.len
 have hmax:=hr.max
 have hcap':=hr'.len
 have hmax':=hr'.max
 unfold maxLen at hmax hmax'
 clear hr hr'
 generalize hn:l.length = len at *
 have HN:=y05h hn
 generalize hn':m.length = len' at *
 have HN':=y05h hn'
 clear hn hn'
 go_enter Tryz.func58,Tryz.ntmps58
 go_upto_region 1 with fail
 go_cut [5] (fun s5 wx=>Hid (Row 8 ic wx l s5 ∧ Below w.heap.size w wx))
 case first =>
   have B1:=y05h ((Below.refl w.heap.size w).alloc (Nat.le_refl _) (.cells #[] 69))
   by_cases hz:len = 0
   · subst hz
     have hl0:l = []:=List.length_eq_zero_iff.1 HN.out
     have HZ:=y05h (show Row 8 ic (w.alloc (.cells #[] 69)) l (.slice (some ⟨w.heap.size,0,none⟩) 0 0) by
       subst hl0
       exact ⟨_,0,w.heap.size,0,rfl,Nat.le_refl _,by decide,fun h=>absurd h (by simp),fun k i h=>by simp at h,fun i h=>by simp at h⟩)
     clear hl0
     cases oa
     all_goals
       go_wp2_with fail
       go_meet
       exact ⟨HZ.out,B1.out⟩
   · obtain ⟨rfl,hb0⟩:=HR.out.at0 (by rw [HN.out];omega)
     have O1:OwnI (w.alloc (.cells #[] 69)) w.heap.size [] (.slice (some ⟨w.heap.size,0,none⟩) 0 0) :=
       ⟨rfl,.inr ⟨w.heap.size,0,#[],rfl,Nat.le_refl _,heap_alloc_new w _,Nat.le_refl _,by decide,rfl,rfl⟩⟩
     have HO1:=y05h O1
     have hown:(w.alloc (.cells #[] 69)).ownsRow w.heap.size 69 8 (.slice (some ⟨w.heap.size,0,none⟩) 0 0) 0 []:=O1
     clear O1
     have hcl:=zc5 l
     rw [HN.out] at hcl
     have HL:=y05h hcl
     clear hcl
     have hone:∀ u ∈ zas l,u.oneCell' = true:=by
       intro u hu
       unfold zas at hu
       rw [List.mem_flatMap] at hu
       obtain ⟨i,_,hu⟩:=hu
       exact zcw i u hu
     have HONE:=y05h hone
     clear hone
     go_wp2_with (at_builtin;refine wpList_append_lies _ (by rfl) _ _ _ (by rfl) w.heap.size 69 i0 _ 8 88 Tryz.underlying41 hi hz0 hz1 hz2 rfl (by omega) (.slice (some ⟨w.heap.size,0,none⟩) 0 0) 0 [] (by rfl) hown ⟨b,o,none⟩ len cap (zas l) (by rfl) HL.out (zie (HR.out.later ((Below.refl _ _).alloc (Nat.le_refl _) _)) HN.out) HONE.out (by omega) (by unfold maxLen;omega) (by omega) (by simp) (w.heap.size + 1) (by simp) ?_;intro g cap2 w3 hown3 hgrow hat hlt3)
     have R1:=y05h (show OwnI w3 w.heap.size l (.slice (some ⟨g,0,none⟩) len cap2) by
       unfold OwnI
       rw [HN.out]
       simpa using hown3)
     have R2:=y05h (zbb HO1.out B1.out (Nat.le_refl _) hgrow B1.out.size)
     clear hown hown3 hgrow hat
     go_meet
     exact ⟨R1.out.row HR.out.ok,R2.out⟩
 case rest =>
   obtain ⟨hrow,hbel⟩:=hcut.out
   have HROW:=y05h hrow
   have HBEL:=y05h hbel
   clear hcut hrow hbel
   go_wp2_with fail
   go_loopw [5,6] (fun lv iv wr=>zyl (fun k=>zat f l (m.take k)) len' len w lv iv wr) (fun _ iv _=>len' - (intOf iv).toNat)
   case atStart=>exact ⟨0,_,Nat.zero_le _,rfl,rfl,by unfold Hid;exact HROW.out,by unfold Hid;show l.length ≤ _;rw [HN.out];omega,HBEL⟩
   case round =>
     obtain ⟨k,sv,hk,rfl,rfl,HO,HLEN,HB⟩:=hrel
     replace HO:=y05h (show Row 8 ic wr (zat f l (m.take k)) sv from HO.out)
     replace HLEN:=y05h (show (zat f l (m.take k)).length ≤ len + k from HLEN.out)
     by_cases hlt:k < len'
     · obtain ⟨y,hy9⟩:∃ y,m[k]? = some y:=⟨_,List.getElem?_eq_getElem (by rw [HN'.out];omega)⟩
       obtain ⟨rfl,hb0'⟩:=HR'.out.at0 (by rw [HN'.out];omega)
       have hs:=ztw (f:=f) (a:=l) hy9
       generalize zat f l (m.take k) = out at *
       have HS:=y05h hs
       have HY:=y05h hy9
       obtain ⟨oo,co,bo,ofo,rfl,hro⟩:=HO.out
       have HRO:=y05h hro
       have GT:=y05h (zfl out y.id (.slice oo out.length co) wr ⟨oo,co,bo,ofo,rfl,hro⟩)
       have hol:=HLEN.out
       have hoc:=hro.len
       have hom:=hro.max
       unfold maxLen at hom
       generalize hgg:getI out y.id = g at *
       have HG:=y05h hgg
       have d0:=(zav (w:=wr) (fun j u hu=>(HB.out.cell (p:=⟨b',o' + k * 8 + j,none⟩) hb0').trans (HR'.out.cell k y hy9 j u hu))).1
       have zb:=Nat.lt_of_lt_of_le hb0' HB.out.size
       clear hs hy9 hro hgg
       go_wp2_with fail
       refine GT.out.mono ?_
       rintro e w2 ⟨rfl,hb2⟩
       have HB2:=y05h (HB.out.trans (hb2.mono HB.out.size))
       have HRO2:=y05h (HRO.out.later hb2)
       clear hb2 d0
       go_wp2_with fail
       have OH:=y05h (Own.new w2 #[.string g.1.id,.int .i64 g.1.r,.int .i64 g.1.c,.int .i64 g.1.st,.string g.1.kd,.int .i64 g.1.num,.complex .f64 g.1.x g.1.y,.bool g.1.d] 69)
       have HB3:=y05h (HB2.out.alloc HB2.out.size (.cells #[.string g.1.id,.int .i64 g.1.r,.int .i64 g.1.c,.int .i64 g.1.st,.string g.1.kd,.int .i64 g.1.num,.complex .f64 g.1.x g.1.y,.bool g.1.d] 69))
       have HRO3:=y05h (HRO2.out.later ((Below.refl _ _).alloc (Nat.le_refl _) (.cells #[.string g.1.id,.int .i64 g.1.r,.int .i64 g.1.c,.int .i64 g.1.st,.string g.1.kd,.int .i64 g.1.num,.complex .f64 g.1.x g.1.y,.bool g.1.d] 69)))
       generalize w2.heap.size = NH at *
       generalize w2.alloc (.cells #[.string g.1.id,.int .i64 g.1.r,.int .i64 g.1.c,.int .i64 g.1.st,.string g.1.kd,.int .i64 g.1.num,.complex .f64 g.1.x g.1.y,.bool g.1.d] 69) = w3 at *
       obtain ⟨d0,d1,d2,d3,d4,d5,d6,d7⟩:=zav (w:=w3) (fun j u hu=>(HB3.out.cell (p:=⟨b',o' + k * 8 + j,none⟩) hb0').trans (HR'.out.cell k y HY.out j u hu))
       have r0:=fun dd os=>cell_regrown d0 dd os
       have r1:=fun dd os=>cell_regrown d1 dd os
       have r2:=fun dd os=>cell_regrown d2 dd os
       have r3:=fun dd os=>cell_regrown d3 dd os
       have r4:=fun dd os=>cell_regrown d4 dd os
       have r5:=fun dd os=>cell_regrown d5 dd os
       have r6:=fun dd os=>cell_regrown d6 dd os
       have r7:=fun dd os=>cell_regrown d7 dd os
       have LA:=fun dd os o=>OH.out.has.regrown dd os o
       have zb3:=Nat.lt_of_lt_of_le hb0' HB3.out.size
       have k0:(0:Int) ≤ (k:Int):=by omega
       have k1:(k:Int) < (len':Int):=by omega
       clear d0 d1 d2 d3 d4 d5 d6 d7
       have m1:=fun dd os=>y05h (Calls.regrown_of (HF y g.1 (Sort.grow (redrawn w3 dd) os)))
       have hsp:(!g.2 || f y g.1) = true → zat f l (m.take (k + 1)) = putI out y:=fun h=>by rw [HS.out];unfold zci;rw [HG.out,if_pos h]
       have hsk:(!g.2 || f y g.1) = false → zat f l (m.take (k + 1)) = out:=fun h=>by rw [HS.out];unfold zci;rw [HG.out,if_neg (by rw [h];simp)]
       have HSP:=y05h hsp
       have HSK:=y05h hsk
       clear hsp hsk
       generalize f y g.1 = fy at *
       generalize hg2:g.2 = g2 at *
       have hways:(g2 = false) ∨ (g2 = true ∧ fy = true) ∨ (g2 = true ∧ fy = false):=by cases g2 <;> cases fy <;> simp
       rcases hways with rfl | ⟨rfl,rfl⟩ | ⟨rfl,rfl⟩
       · go_wp2_with fail
         refine wp_region_quiet_below (by kernel_rfl) (by kernel_rfl) ?_
         repeat (first | go_big_quiet_step ((with_reducible exact (m1 _ _).out)) | quiet_step ((with_reducible exact (m1 _ _).out)))
         refine wpQuiet_nil ?_
         intro w7 hw'
         have hb':=y05h (zac hw')
         clear hw'
         clear m1 LA r0 r1 r2 r3 r4 r5 r6 r7
         have HB7:=y05h (HB3.out.trans (hb'.out.mono HB3.out.size))
         have HRO7:=y05h (HRO3.out.later hb'.out)
         have hst:=HSP.out rfl
         have HST:=y05h hst
         clear hst
         obtain ⟨d0,d1,d2,d3,d4,d5,d6,d7⟩:=zav (w:=w7) (fun j u hu=>(HB7.out.cell (p:=⟨b',o' + k * 8 + j,none⟩) hb0').trans (HR'.out.cell k y HY.out j u hu))
         have zb7:=Nat.lt_of_lt_of_le hb0' HB7.out.size
         have PT:=y05h (zdz out y (.slice oo out.length co) w7 ⟨oo,co,bo,ofo,rfl,HRO7.out⟩ (by omega))
         go_wp2_with fail
         refine PT.out.mono ?_
         rintro e w8 ⟨v8,rfl,ho8,hb8⟩
         have HB8:=y05h (HB7.out.trans (hb8.mono HB7.out.size))
         have HR8:=y05h (ho8.row (fun i hi=>by
           rcases zfb hi with h | h
           · exact HRO7.out.ok i h
           · rw [h];exact HR'.out.ok y (List.mem_of_getElem? HY.out)))
         clear ho8 hb8
         go_wp2_with fail
         go_roundw
         case rel=>exact ⟨k + 1,_,by omega,by go_num,rfl,y05h (by show Row 8 ic w8 (zat f l (m.take (k + 1))) v8;rw [HST.out];exact HR8.out),y05h (by show (zat f l (m.take (k + 1))).length ≤ _;rw [HST.out];have:=zcu out y;omega),HB8⟩
         case measure=>simp [intOf];omega
       · go_wp2_with fail
         refine wp_region_quiet_below (by kernel_rfl) (by kernel_rfl) ?_
         repeat (first | go_big_quiet_step ((with_reducible exact (m1 _ _).out)) | quiet_step ((with_reducible exact (m1 _ _).out)))
         refine wpQuiet_nil ?_
         intro w7 hw'
         have hb':=y05h (zac hw')
         clear hw'
         clear m1 LA r0 r1 r2 r3 r4 r5 r6 r7
         have HB7:=y05h (HB3.out.trans (hb'.out.mono HB3.out.size))
         have HRO7:=y05h (HRO3.out.later hb'.out)
         have hst:=HSP.out rfl
         have HST:=y05h hst
         clear hst
         obtain ⟨d0,d1,d2,d3,d4,d5,d6,d7⟩:=zav (w:=w7) (fun j u hu=>(HB7.out.cell (p:=⟨b',o' + k * 8 + j,none⟩) hb0').trans (HR'.out.cell k y HY.out j u hu))
         have zb7:=Nat.lt_of_lt_of_le hb0' HB7.out.size
         have PT:=y05h (zdz out y (.slice oo out.length co) w7 ⟨oo,co,bo,ofo,rfl,HRO7.out⟩ (by omega))
         go_wp2_with fail
         refine PT.out.mono ?_
         rintro e w8 ⟨v8,rfl,ho8,hb8⟩
         have HB8:=y05h (HB7.out.trans (hb8.mono HB7.out.size))
         have HR8:=y05h (ho8.row (fun i hi=>by
           rcases zfb hi with h | h
           · exact HRO7.out.ok i h
           · rw [h];exact HR'.out.ok y (List.mem_of_getElem? HY.out)))
         clear ho8 hb8
         go_wp2_with fail
         go_roundw
         case rel=>exact ⟨k + 1,_,by omega,by go_num,rfl,y05h (by show Row 8 ic w8 (zat f l (m.take (k + 1))) v8;rw [HST.out];exact HR8.out),y05h (by show (zat f l (m.take (k + 1))).length ≤ _;rw [HST.out];have:=zcu out y;omega),HB8⟩
         case measure=>simp [intOf];omega
       · go_wp2_with fail
         refine wp_region_quiet_below (by kernel_rfl) (by kernel_rfl) ?_
         repeat (first | go_big_quiet_step ((with_reducible exact (m1 _ _).out)) | quiet_step ((with_reducible exact (m1 _ _).out)))
         refine wpQuiet_nil ?_
         intro w7 hw'
         have hb':=y05h (zac hw')
         clear hw'
         clear m1 LA r0 r1 r2 r3 r4 r5 r6 r7
         have HB7:=y05h (HB3.out.trans (hb'.out.mono HB3.out.size))
         have HRO7:=y05h (HRO3.out.later hb'.out)
         have hst:=HSK.out rfl
         have HST:=y05h hst
         clear hst
         go_wp2_with fail
         go_roundw
         case rel=>exact ⟨k + 1,_,by omega,by go_num,rfl,y05h (by show Row 8 ic w7 (zat f l (m.take (k + 1))) _;rw [HST.out];exact ⟨oo,co,bo,ofo,rfl,HRO7.out⟩),y05h (by show (zat f l (m.take (k + 1))).length ≤ _;rw [HST.out];omega),HB7⟩
         case measure=>simp [intOf];omega
     · have e:len' = k:=by omega
       subst e
       have h9:=HO.out
       rw [List.take_of_length_le (by rw [HN'.out];omega)] at h9
       have H9:=y05h h9
       clear h9
       go_wp2_with fail
       go_ret
       exact ⟨_,rfl,H9.out,HB.out⟩
end Go.Proofs.YthnllikalobmeaaGreat
namespace Go.Proofs.YthnllikalobmeaaGreat
set_option linter.unusedVariables false
set_option linter.unusedSimpArgs false
set_option maxRecDepth 100000
set_option maxHeartbeats 8000000
namespace Fl
open Ieee
def f64:Format:=Ieee.double
theorem zgd (way:Toward) (neg:Bool) (n:Nat):way.cut neg n 0 = n:=by
 cases way <;> simp [Toward.cut,Nat.mod_one] <;> omega
theorem zt1 (way:Toward) (neg:Bool) (n D:Nat) (h:D ≤ n.log2 + 2) (hd:n % 2 ^ D = 0):way.cut neg n D = n / 2 ^ D:=by
 have e:min D (n.log2 + 2) = D:=by omega
 have p:0 < 2 ^ D:=Nat.two_pow_pos D
 cases way <;> simp [Toward.cut,e,Nat.shiftLeft_eq,hd] <;> omega
theorem zob (neg:Bool) (n D:Nat):Toward.zero.cut neg n D = n / 2 ^ D:=by
 simp only [Toward.cut,Nat.shiftLeft_eq,Nat.one_mul,Bool.toNat_false,Nat.add_zero]
 by_cases h:D ≤ n.log2 + 2
 · rw [Nat.min_eq_left h]
 · have h':n.log2 + 2 ≤ D:=by omega
   rw [Nat.min_eq_right h']
   have l1:n < 2 ^ (n.log2 + 2):=Nat.lt_trans Nat.lt_log2_self (Nat.pow_lt_pow_right (by omega) (by omega))
   have l2:2 ^ (n.log2 + 2) ≤ 2 ^ D:=Nat.pow_le_pow_right (by omega) h'
   rw [Nat.div_eq_of_lt l1,Nat.div_eq_of_lt (by omega)]
theorem zsq (K E:Nat) (hK:K ≠ 0):(K * 2 ^ E).log2 = K.log2 + E:=by
 have h0:K * 2 ^ E ≠ 0:=Nat.mul_ne_zero hK (by have:=Nat.two_pow_pos E;omega)
 rw [Nat.log2_eq_iff h0]
 have h1:=(Nat.log2_eq_iff (k:=K.log2) hK).1 rfl
 constructor
 · rw [Nat.pow_add];exact Nat.mul_le_mul_right _ h1.1
 · rw [Nat.add_right_comm,Nat.pow_add];exact Nat.mul_lt_mul_of_pos_right h1.2 (Nat.two_pow_pos E)
theorem zzi (K:Nat) (hK:K < 4096):K.log2 ≤ 11:=by
 by_cases h:K = 0
 · subst h;decide
 · have:=(Nat.log2_lt h (k:=12)).2 (by simpa using hK);omega
theorem znd (neg:Bool) (K E:Nat) (hK:K < 4096) (hK0:K ≠ 0):f64.nearest neg (K * 2 ^ E) (-E) = f64.nearest neg K 0:=by
 have hl:=zzi K hK
 have hs:=zsq K E hK0
 have h0:K * 2 ^ E ≠ 0:=Nat.mul_ne_zero hK0 (by have:=Nat.two_pow_pos E;omega)
 have lp:f64.leastPlace = -1074:=by decide
 have fb:f64.fractionBits = 52:=rfl
 unfold Format.nearest
 rw [if_neg h0,if_neg hK0]
 dsimp only
 rw [hs,lp,fb]
 have el:max (-(E:Int) + ((K.log2 + E:Nat):Int) - ((52:Nat):Int)) (-1074) = (K.log2:Int) - 52:=by omega
 have er:max ((0:Int) + ((K.log2:Nat):Int) - ((52:Nat):Int)) (-1074) = (K.log2:Int) - 52:=by omega
 rw [el,er]
 have a1:((0:Int) - ((K.log2:Int) - 52)).toNat = 52 - K.log2:=by omega
 have a2:((K.log2:Int) - 52 - 0).toNat = 0:=by omega
 rw [a1,a2,zgd]
 by_cases h:E ≤ 52 - K.log2
 · have b1:(-(E:Int) - ((K.log2:Int) - 52)).toNat = 52 - K.log2 - E:=by omega
   have b2:((K.log2:Int) - 52 - -(E:Int)).toNat = 0:=by omega
   rw [b1,b2,zgd]
   have:(K * 2 ^ E) <<< (52 - K.log2 - E) = K <<< (52 - K.log2):=by
     rw [Nat.shiftLeft_eq,Nat.shiftLeft_eq,Nat.mul_assoc,← Nat.pow_add]
     congr 2;omega
   rw [this]
 · have b1:(-(E:Int) - ((K.log2:Int) - 52)).toNat = 0:=by omega
   have b2:((K.log2:Int) - 52 - -(E:Int)).toNat = E - (52 - K.log2):=by omega
   rw [b1,b2,Nat.shiftLeft_zero]
   have e2:K * 2 ^ E = K * 2 ^ (52 - K.log2) * 2 ^ (E - (52 - K.log2)):=by
     rw [Nat.mul_assoc,← Nat.pow_add];congr 2;omega
   rw [zt1 _ _ _ _ (by rw [hs];omega) (by rw [e2,Nat.mul_mod_left])]
   rw [e2,Nat.mul_div_cancel _ (Nat.two_pow_pos _),Nat.shiftLeft_eq]
def IsInt (b:Nat) (n:Int):Prop :=
 ∃ s m,∃ e:Nat,f64.read b = .number s m (-e) ∧ m = n.natAbs * 2 ^ e ∧ (n ≠ 0 → s = decide (n < 0))
def zdo (s:Bool) (k:Nat):Bool :=
 match f64.read (f64.nearest s k 0) with
 | .number s' m i=>decide (i ≤ 0) && decide (m = k * 2 ^ (-i).toNat) && s' == s
 | _=>false
theorem zvx:∀ i < 64,∀ j < 64,zdo true (64 * i + j) = true ∧ zdo false (64 * i + j) = true:=by decide +kernel
theorem zx6 (k:Nat) (hk:k < 4001):zdo true k = true ∧ zdo false k = true:=by
 have h:=zvx (k / 64) (by omega) (k % 64) (Nat.mod_lt _ (by omega))
 rwa [Nat.div_add_mod] at h
theorem zzy (s:Bool) (k:Nat) (hk:k ≤ 4000):∃ e:Nat,f64.read (f64.nearest s k 0) = .number s (k * 2 ^ e) (-e):=by
 have h:zdo s k = true:=by
   have:=zx6 k (by omega)
   cases s
   · exact this.2
   · exact this.1
 unfold zdo at h
 split at h
 · rename_i s' m i hr
   simp only [Bool.and_eq_true,decide_eq_true_eq,beq_iff_eq] at h
   obtain ⟨⟨h1,h2⟩,h3⟩:=h
   obtain ⟨e,rfl⟩:∃ e:Nat,i = -(e:Int):=⟨(-i).toNat,by omega⟩
   refine ⟨e,?_⟩
   rw [hr,h2,h3]
   have:(- -(e:Int)).toNat = e:=by omega
   rw [this]
 · cases h
theorem ze2 (s:Bool) (k:Nat) (hk:k ≤ 4000):IsInt (f64.nearest s k 0) (if s then -(k:Int) else k):=by
 obtain ⟨e,he⟩:=zzy s k hk
 refine ⟨s,_,e,he,?_,?_⟩
 · cases s <;> simp
 · intro h0
   cases s
   · simp only [Bool.false_eq_true,if_false] at h0 ⊢
     exact (decide_eq_false (by omega)).symm
   · simp only [if_true] at h0 ⊢
     exact (decide_eq_true (by omega)).symm
theorem zdb {n:Int} {s:Bool} {m e j:Nat} (hm:m = n.natAbs * 2 ^ e) (hs:n ≠ 0 → s = decide (n < 0)):signed s m j = n * 2 ^ (e + j):=by
 have key:((m <<< j:Nat):Int) = n.natAbs * 2 ^ (e + j):=by
   rw [Nat.shiftLeft_eq,hm,Nat.mul_assoc,← Nat.pow_add];push_cast;rfl
 unfold signed
 by_cases h0:n = 0
 · subst h0
   simp at hm;subst hm
   simp
 · rw [hs h0,key]
   by_cases hn:n < 0
   · simp only [hn,decide_true,if_true]
     have:(n.natAbs:Int) = -n:=by omega
     rw [this,Int.neg_mul,Int.neg_neg]
   · simp only [hn,decide_false,Bool.false_eq_true,if_false]
     have:(n.natAbs:Int) = n:=by omega
     rw [this]
theorem zl1 (e:Nat):(0:Int) < 2 ^ e:=Int.pow_pos (by decide)
theorem order_int {a b:Nat} {x y:Int} (ha:IsInt a x) (hb:IsInt b y):f64.order a b = some (compare x y):=by
 obtain ⟨s,m,e,ra,rfl,hs⟩:=ha
 obtain ⟨t,n,d,rb,rfl,ht⟩:=hb
 unfold Format.order
 rw [ra,rb]
 simp only [Datum.order]
 rw [zdb rfl hs,zdb rfl ht]
 have h1:e + (-(e:Int) - min (-(e:Int)) (-(d:Int))).toNat = max e d:=by omega
 have h2:d + (-(d:Int) - min (-(e:Int)) (-(d:Int))).toNat = max e d:=by omega
 rw [h1,h2]
 congr 1
 have p:=zl1 (max e d)
 rcases Int.lt_trichotomy x y with h | h | h
 · have h':x * 2 ^ max e d < y * 2 ^ max e d:=Int.mul_lt_mul_of_pos_right h p
   rw [Int.compare_eq_lt.2 h',Int.compare_eq_lt.2 h]
 · subst h;simp
 · have h':y * 2 ^ max e d < x * 2 ^ max e d:=Int.mul_lt_mul_of_pos_right h p
   rw [Int.compare_eq_gt.2 h',Int.compare_eq_gt.2 h]
theorem zmy {b:Nat} {n:Int} (h:IsInt b n):(f64.read b).toInt .zero = some n:=by
 obtain ⟨s,m,e,rb,rfl,hs⟩:=h
 rw [rb]
 simp only [Datum.toInt,Datum.integral]
 have h1:(-(e:Int)).toNat = 0:=by omega
 have h2:(-(-(e:Int))).toNat = e:=by omega
 rw [h1,h2,Nat.shiftLeft_zero,zob,Nat.mul_div_cancel _ (Nat.two_pow_pos e)]
 rw [zdb (e:=0) (by simp) hs]
 simp
theorem diff_int {a b:Nat} {x y:Int} (ha:IsInt a x) (hb:IsInt b y) (h:(x - y).natAbs ≤ 4000):∃ r,f64.sub a b = some r ∧ IsInt r (x - y):=by
 obtain ⟨s,m,e,ra,rfl,hs⟩:=ha
 obtain ⟨t,n,d,rb,rfl,ht⟩:=hb
 unfold Format.sub
 rw [ra,rb]
 simp only [Datum.opposite,Datum.sum,Option.map_some,Option.some.injEq,exists_eq_left']
 have ht':-y ≠ 0 → (!t) = decide (-y < 0):=by
   intro hy
   rw [ht (by omega)]
   rcases Int.lt_trichotomy y 0 with h | h | h
   · have h1:¬ -y < 0:=by omega
     rw [decide_eq_true h,decide_eq_false h1];rfl
   · omega
   · have h1:-y < 0:=by omega
     have h2:¬ y < 0:=by omega
     rw [decide_eq_true h1,decide_eq_false h2];rfl
 rw [zdb rfl hs,zdb (n:=-y) (e:=d) (by rw [Int.natAbs_neg]) ht']
 have h1:e + (-(e:Int) - min (-(e:Int)) (-(d:Int))).toNat = max e d:=by omega
 have h2:d + (-(d:Int) - min (-(e:Int)) (-(d:Int))).toNat = max e d:=by omega
 have h3:min (-(e:Int)) (-(d:Int)) = -((max e d:Nat):Int):=by omega
 rw [h1,h2,h3,← Int.add_mul,← Int.sub_eq_add_neg]
 generalize max e d = E
 have hna:((x - y) * 2 ^ E).natAbs = (x - y).natAbs * 2 ^ E:=by
   rw [Int.natAbs_mul,Int.natAbs_pow];rfl
 have p:=zl1 E
 by_cases h0:x - y = 0
 · rw [hna,h0]
   simp only [Int.zero_mul,if_true,Int.natAbs_zero,Nat.zero_mul]
   have:f64.write (.number (s && !t) 0 (-(E:Int))) = f64.nearest (s && !t) 0 0:=by simp [Format.write,Format.nearest]
   rw [this]
   have:=ze2 (s && !t) 0 (by omega)
   simpa using this
 · rw [hna]
   have hne:(x - y) * 2 ^ E ≠ 0:=Int.mul_ne_zero h0 (by omega)
   rw [if_neg hne]
   simp only [Format.write]
   have hd:decide ((x - y) * 2 ^ E < 0) = decide (x - y < 0):=by
     congr 1
     rw [eq_iff_iff]
     constructor
     · intro hlt
       rcases Int.lt_or_le (x - y) 0 with h | h
       · exact h
       · have:=Int.mul_nonneg h (Int.le_of_lt p);omega
     · intro hlt;exact Int.mul_neg_of_neg_of_pos hlt p
   rw [hd,znd _ _ _ (by omega) (by omega)]
   have:=ze2 (decide (x - y < 0)) (x - y).natAbs h
   by_cases hn:x - y < 0
   · simp only [hn,decide_true,if_true] at this ⊢
     rwa [show -(((x - y).natAbs:Nat):Int) = x - y by omega] at this
   · simp only [hn,decide_false,Bool.false_eq_true,if_false] at this ⊢
     rwa [show (((x - y).natAbs:Nat):Int) = x - y by omega] at this
def lo:Nat:=13875379345695965184
def hi:Nat:=4652007308841189376
theorem zo2:IsInt lo (-1000):=⟨true,8796093022208000,43,by decide +kernel,by decide +kernel,fun _=>rfl⟩
theorem zo1:IsInt hi 1000:=⟨false,8796093022208000,43,by decide +kernel,by decide +kernel,fun _=>rfl⟩
def geLo (b:Nat):Bool:=f64.order b lo == some .gt || f64.order b lo == some .eq
def leHi (b:Nat):Bool:=f64.order b hi == some .lt || f64.order b hi == some .eq
def trunc (b:Nat):Nat:=f64.write ((f64.read b).integral .zero)
def wb (b:Nat):Bool:=geLo b && leHi b && f64.order b (trunc b) == some .eq
def iv (b:Nat):Int:=((f64.read b).toInt .zero).getD 0
theorem zop {b:Nat} {n:Int} (h:IsInt b n):geLo b = decide (-1000 ≤ n):=by
 unfold geLo
 rw [order_int h zo2]
 rcases Int.lt_trichotomy n (-1000) with h | h | h
 · rw [Int.compare_eq_lt.2 h,decide_eq_false (by omega)];decide
 · subst h;decide
 · rw [Int.compare_eq_gt.2 h,decide_eq_true (by omega)];decide
theorem zo8 {b:Nat} {n:Int} (h:IsInt b n):leHi b = decide (n ≤ 1000):=by
 unfold leHi
 rw [order_int h zo1]
 rcases Int.lt_trichotomy n 1000 with h | h | h
 · rw [Int.compare_eq_lt.2 h,decide_eq_true (by omega)];decide
 · subst h;decide
 · rw [Int.compare_eq_gt.2 h,decide_eq_false (by omega)];decide
theorem zet (s:Bool) (m j:Nat):(signed s m j).natAbs = m * 2 ^ j:=by
 unfold signed
 rw [Nat.shiftLeft_eq]
 split
 · rw [Int.natAbs_neg];simp [Int.natAbs_mul,Int.natAbs_pow]
 · simp [Int.natAbs_mul,Int.natAbs_pow]
theorem zh8 {a b m:Nat} {sg:Bool} {e:Nat} {y:Int} (ra:f64.read a = .number sg m (-(e:Int))) (hb:IsInt b y) (h:f64.order a b = some .eq):IsInt a y:=by
 obtain ⟨t,n,d,rb,rfl,ht⟩:=hb
 unfold Format.order at h
 rw [ra,rb] at h
 simp only [Datum.order,Option.some.injEq] at h
 rw [zdb rfl ht] at h
 have h1:(-(e:Int) - min (-(e:Int)) (-(d:Int))).toNat = max e d - e:=by omega
 have h2:d + (-(d:Int) - min (-(e:Int)) (-(d:Int))).toNat = max e d:=by omega
 rw [h1,h2,Int.compare_eq_eq] at h
 have h3:=congrArg Int.natAbs h
 rw [zet,Int.natAbs_mul,Int.natAbs_pow] at h3
 have h4:m = y.natAbs * 2 ^ e:=by
   have p:0 < 2 ^ (max e d - e):=Nat.two_pow_pos _
   refine Nat.eq_of_mul_eq_mul_right p ?_
   rw [Nat.mul_assoc,← Nat.pow_add,show e + (max e d - e) = max e d by omega]
   exact h3
 refine ⟨sg,m,e,ra,h4,?_⟩
 intro hy
 unfold signed at h
 have p:=zl1 (max e d)
 have pm:0 < m:=by
   rw [h4];exact Nat.mul_pos (by omega) (Nat.two_pow_pos e)
 have pq:0 < m <<< (max e d - e):=by
   rw [Nat.shiftLeft_eq];exact Nat.mul_pos pm (Nat.two_pow_pos _)
 rcases Int.lt_or_le y 0 with hneg | hpos
 · rw [decide_eq_true hneg]
   have:=Int.mul_neg_of_neg_of_pos hneg p
   cases sg
   · simp only [Bool.false_eq_true,if_false] at h;omega
   · rfl
 · rw [decide_eq_false (by omega)]
   have:=Int.mul_nonneg hpos (Int.le_of_lt p)
   cases sg
   · rfl
   · simp only [if_true] at h;omega
theorem zsv {a b:Nat} (h:f64.order a b = some .eq):f64.order b a = some .eq:=by
 unfold Format.order at *
 revert h
 generalize f64.read a = x
 generalize f64.read b = y
 intro h
 cases x <;> cases y <;> simp only [Datum.order,Option.some.injEq,reduceCtorEq] at h ⊢
 · rename_i s m i t n j
   rw [Int.compare_eq_eq] at h
   rw [Int.min_comm j i,Int.compare_eq_eq];exact h.symm
 · split at h <;> cases h
 · split at h <;> cases h
 · rename_i s t
   cases s <;> cases t <;> first | rfl | (revert h;decide)
theorem finite_of_range {b:Nat} (hl:geLo b = true) (hh:leHi b = true):∃ s m,∃ e:Nat,f64.read b = .number s m (-e) ∧ m ≤ 1000 * 2 ^ e:=by
 have fin:∃ s m i,f64.read b = .number s m i:=by
   obtain ⟨t,n,d,rb,_,_⟩:=zo1
   obtain ⟨t',n',d',rb',_,_⟩:=zo2
   unfold leHi geLo Format.order at *
   rw [rb] at hh
   rw [rb'] at hl
   cases hr:f64.read b with
   | number s m i=>exact ⟨s,m,i,rfl⟩
   | infinity s=>rw [hr] at hh hl;cases s <;> simp [Datum.order] at hh hl
   | nan s f=>rw [hr] at hh;simp [Datum.order] at hh
 obtain ⟨s,m,i,hr⟩:=fin
 have key:m * 2 ^ (i - min i (-43)).toNat ≤ 8796093022208000 * 2 ^ (-43 - min i (-43)).toNat:=by
   have rh:f64.read hi = .number false 8796093022208000 (-43):=by decide +kernel
   have rl:f64.read lo = .number true 8796093022208000 (-43):=by decide +kernel
   have e1:signed s m (i - min i (-43)).toNat ≤ signed false 8796093022208000 (-43 - min i (-43)).toNat:=by
     unfold leHi Format.order at hh
     rw [hr,rh] at hh
     simp only [Datum.order] at hh
     rcases Int.lt_trichotomy (signed s m (i - min i (-43)).toNat) (signed false 8796093022208000 (-43 - min i (-43)).toNat) with h | h | h
     · omega
     · omega
     · rw [Int.compare_eq_gt.2 h] at hh;exact absurd hh (by decide)
   have e2:signed true 8796093022208000 (-43 - min i (-43)).toNat ≤ signed s m (i - min i (-43)).toNat:=by
     unfold geLo Format.order at hl
     rw [hr,rl] at hl
     simp only [Datum.order] at hl
     rcases Int.lt_trichotomy (signed s m (i - min i (-43)).toNat) (signed true 8796093022208000 (-43 - min i (-43)).toNat) with h | h | h
     · rw [Int.compare_eq_lt.2 h] at hl;exact absurd hl (by decide)
     · omega
     · omega
   simp only [signed,Bool.false_eq_true,if_false,if_true] at e1 e2
   have:=zet s m (i - min i (-43)).toNat
   unfold signed at this
   rw [Nat.shiftLeft_eq 8796093022208000] at e1 e2
   generalize 8796093022208000 * 2 ^ (-43 - min i (-43)).toNat = B at *
   omega
 have i0:i ≤ 0:=by
   rcases Int.lt_or_le 0 i with hi0 | hi0
   · exfalso
     have hm:2 ^ 52 ≤ m:=by
       unfold Format.read at hr
       have lp:f64.leastPlace = -1074:=by decide
       have bn:f64.binade = 2 ^ 52:=by decide
       rw [lp] at hr
       dsimp only at hr
       split at hr
       · cases hr;omega
       · split at hr
         · cases hr;rw [bn];exact Nat.le_add_right _ _
         · split at hr <;> cases hr
     have h1:min i (-43) = -43:=by omega
     rw [h1] at key
     have h2:(i - -43).toNat = 43 + i.toNat:=by omega
     have h3:((-43:Int) - -43).toNat = 0:=rfl
     rw [h2,h3,Nat.pow_zero,Nat.mul_one,Nat.pow_add] at key
     have h4:0 < 2 ^ i.toNat:=Nat.two_pow_pos _
     have h5:2 ^ 52 * (2 ^ 43 * 1) ≤ m * (2 ^ 43 * 2 ^ i.toNat):=Nat.mul_le_mul hm (Nat.mul_le_mul_left _ h4)
     omega
   · exact hi0
 obtain ⟨e,rfl⟩:∃ e:Nat,i = -(e:Int):=⟨(-i).toNat,by omega⟩
 refine ⟨s,m,e,hr,?_⟩
 by_cases h43:e ≤ 43
 · have h1:(-(e:Int) - min (-(e:Int)) (-43)).toNat = 43 - e:=by omega
   have h2:((-43:Int) - min (-(e:Int)) (-43)).toNat = 0:=by omega
   rw [h1,h2,Nat.pow_zero,Nat.mul_one] at key
   have p:0 < 2 ^ (43 - e):=Nat.two_pow_pos _
   refine Nat.le_of_mul_le_mul_right ?_ p
   rw [Nat.mul_assoc,← Nat.pow_add,show e + (43 - e) = 43 by omega]
   exact key
 · have h1:(-(e:Int) - min (-(e:Int)) (-43)).toNat = 0:=by omega
   have h2:((-43:Int) - min (-(e:Int)) (-43)).toNat = e - 43:=by omega
   rw [h1,h2,Nat.pow_zero,Nat.mul_one] at key
   have:1000 * 2 ^ e = 8796093022208000 * 2 ^ (e - 43):=by
     have:(8796093022208000:Nat) = 1000 * 2 ^ 43:=by decide
     rw [this,Nat.mul_assoc,← Nat.pow_add];congr 2;omega
   omega
theorem trunc_int {b:Nat} (hl:geLo b = true) (hh:leHi b = true):IsInt (trunc b) (iv b) ∧ (iv b).natAbs ≤ 1000:=by
 obtain ⟨s,m,e,hr,hm⟩:=finite_of_range hl hh
 have hk:m / 2 ^ e ≤ 1000:=Nat.div_le_of_le_mul (by rw [Nat.mul_comm];exact hm)
 have h1:(-(e:Int)).toNat = 0:=by omega
 have h2:(-(-(e:Int))).toNat = e:=by omega
 unfold trunc iv
 rw [hr]
 simp only [Datum.toInt,Datum.integral,h1,h2,Nat.shiftLeft_zero,zob,Option.getD_some,Format.write]
 have:=ze2 s (m / 2 ^ e) (by omega)
 have e1:(if s = true then -((m / 2 ^ e:Nat):Int) else ((m / 2 ^ e:Nat):Int)) = signed s (m / 2 ^ e) 0:=by simp [signed]
 rw [e1] at this
 refine ⟨this,?_⟩
 rw [zet];simpa using hk
theorem wb_int {b:Nat} (h:wb b = true):IsInt b (iv b) ∧ (iv b).natAbs ≤ 1000:=by
 unfold wb at h
 simp only [Bool.and_eq_true,beq_iff_eq] at h
 obtain ⟨⟨hl,hh⟩,ho⟩:=h
 obtain ⟨ht,hn⟩:=trunc_int hl hh
 obtain ⟨s,m,e,hr,hm⟩:=finite_of_range hl hh
 exact ⟨zh8 hr ht ho,hn⟩
theorem z06 {b:Nat} {n:Int} (h:IsInt b n):iv b = n:=by
 unfold iv;rw [zmy h];rfl
theorem z05 {b:Nat} {n:Int} (h:IsInt b n):wb b = decide (-1000 ≤ n ∧ n ≤ 1000):=by
 unfold wb
 rw [zop h,zo8 h]
 by_cases h1:-1000 ≤ n
 · by_cases h2:n ≤ 1000
   · have hl:geLo b = true:=by rw [zop h];simp [h1]
     have hh:leHi b = true:=by rw [zo8 h];simp [h2]
     have ht:=(trunc_int hl hh).1
     rw [z06 h] at ht
     rw [order_int h ht];simp [h1,h2]
   · simp [h2]
 · simp [h1]
theorem back_wb {b r:Nat} (hl:geLo b = true) (hh:leHi b = true) (hr:IsInt r (iv b)):(f64.order r b == some .eq) = wb b:=by
 cases hw:wb b with
 | true =>
   have:=wb_int hw
   rw [order_int hr this.1];simp
 | false =>
   by_cases h:f64.order r b = some .eq
   · obtain ⟨s,m,e,hrd,hm⟩:=finite_of_range hl hh
     have hi:=zh8 hrd hr (zsv h)
     have hn:=(trunc_int hl hh).2
     rw [z05 hi] at hw
     exact absurd hw (by simp;omega)
   · simpa using h
theorem toInt_range {b:Nat} (hl:geLo b = true) (hh:leHi b = true):floatToIntVal .f64 b .i64 = some (iv b):=by
 obtain ⟨s,m,e,hr,hm⟩:=finite_of_range hl hh
 have hn:=(trunc_int hl hh).2
 unfold floatToIntVal
 have hd:FloatKind.f64.decode b = f64.read b:=rfl
 have h0:(f64.read b).toInt .zero = some (iv b):=by
   unfold iv;rw [hr];rfl
 rw [hd,h0]
 have h1:IntKind.i64.min ≤ iv b ∧ iv b ≤ IntKind.i64.max:=by
   have:IntKind.i64.min = -9223372036854775808:=by decide
   have:IntKind.i64.max = 9223372036854775807:=by decide
   omega
 simp only [h1,and_self,if_true]
theorem toIntVal_int {b:Nat} {n:Int} (h:IsInt b n) (hn:n.natAbs ≤ 4000):floatToIntVal .f64 b .i64 = some n:=by
 unfold floatToIntVal
 have hd:FloatKind.f64.decode b = f64.read b:=rfl
 rw [hd,zmy h]
 have h1:IntKind.i64.min ≤ n ∧ n ≤ IntKind.i64.max:=by
   have:IntKind.i64.min = -9223372036854775808:=by decide
   have:IntKind.i64.max = 9223372036854775807:=by decide
   omega
 simp only [h1,and_self,if_true]
theorem ofInt_int {n:Int} (hn:n.natAbs ≤ 4000):IsInt (floatOfInt .f64 n) n:=by
 have:=ze2 (decide (n < 0)) n.natAbs hn
 have e:floatOfInt .f64 n = f64.nearest (decide (n < 0)) n.natAbs 0:=rfl
 rw [e]
 by_cases h:n < 0
 · rw [decide_eq_true h] at this ⊢
   rw [if_pos rfl,show -((n.natAbs:Nat):Int) = n by omega] at this
   exact this
 · rw [decide_eq_false h] at this ⊢
   rw [if_neg (by decide),show ((n.natAbs:Nat):Int) = n by omega] at this
   exact this
end Fl
end Go.Proofs.YthnllikalobmeaaGreat
namespace Go.Proofs.YthnllikalobmeaaGreat
set_option linter.unusedVariables false
set_option linter.unusedSimpArgs false
set_option maxRecDepth 100000
set_option maxHeartbeats 8000000
open Go.RowKit
theorem zi5 (name:String) (b:Nat) (s:Bool) (m:Nat) (i:Int) (h:FloatKind.f64.decode b = .number s m i) :
   Extern.MathFloor.toIntegral name .zero #[.float .f64 b] = pure (.float .f64 (FloatKind.f64.encode ((Ieee.Datum.number s m i).integral .zero))):=by
 have key:∀ d,FloatKind.f64.decode b = d → Extern.MathFloor.toIntegral name .zero #[.float .f64 b] =
     (match d with
     | .nan s t=>if FloatKind.f64.format.quiet t = t then pure (.float .f64 b) else do
       let kept ← choose (.extern "math.Floor,Ceil,Trunc,RoundToEven.signallingNaN kept" 2)
       pure (.float .f64 (if kept == 1 then b else FloatKind.f64.encode (.nan s (FloatKind.f64.format.quiet t))))
     | d=>pure (.float .f64 (FloatKind.f64.encode (d.integral .zero)))):=by
   intro d hd;subst hd;rfl
 exact key _ h
theorem zvl (b:Nat) (w:World) (hl:Fl.geLo b = true) (hh:Fl.leHi b = true) :
   (callFunc 190 #[.float .f64 b]).run Tryz.prog w = .ok (.value (.float .f64 (Fl.trunc b))) w:=by
 rw [run_callFunc_extern (e:=Extern.MathFloor.toIntegral "math.archTrunc" .zero) Tryz.func190 (by kernel_rfl) (by kernel_rfl) (by kernel_rfl) (by kernel_rfl)]
 obtain ⟨s,m,e,hr,hm⟩:=Fl.finite_of_range hl hh
 rw [zi5 _ b s m _ hr]
 unfold Fl.trunc
 rw [hr]
 rfl
theorem zq0 (b:Nat) (w:World) (hl:Fl.geLo b = true) (hh:Fl.leHi b = true) :
   Calls Tryz.prog 178 #[.float .f64 b] w fun e w'=>e = .returned (.float .f64 (Fl.trunc b)) ∧ w = w':=by
 have h:=zvl b w hl hh
 go_enter Tryz.func178,Tryz.ntmps178
 go_wp2
 go_ret
 exact ⟨rfl,rfl⟩
theorem inR (b:Nat):(FloatKind.f64.format.order b 13875379345695965184 == some .gt || FloatKind.f64.format.order b 13875379345695965184 == some .eq) = Fl.geLo b:=rfl
theorem inH (b:Nat):(FloatKind.f64.format.order b 4652007308841189376 == some .lt || FloatKind.f64.format.order b 4652007308841189376 == some .eq) = Fl.leHi b:=rfl
theorem inT (b:Nat) (hl:Fl.geLo b = true) (hh:Fl.leHi b = true):(FloatKind.f64.format.order b (Fl.trunc b) == some .eq) = Fl.wb b:=by
 simp only [Fl.wb,hl,hh,Bool.true_and];rfl
theorem zq1 (b:Nat) (w:World) :
   Calls Tryz.prog 172 #[.float .f64 b] w fun e w'=>e = .returned (.bool (Fl.wb b)) ∧ w = w':=by
 have e1:=inR b
 have e2:=inH b
 cases hl:Fl.geLo b
 · rw [show Fl.wb b = false by simp [Fl.wb,hl]]
   rw [hl] at e1
   go_enter Tryz.func172,Tryz.ntmps172
   go_wp2
   go_ret
   exact ⟨rfl,rfl⟩
 · cases hh:Fl.leHi b
   · rw [show Fl.wb b = false by simp [Fl.wb,hh]]
     rw [hl] at e1
     rw [hh] at e2
     go_enter Tryz.func172,Tryz.ntmps172
     go_wp2
     go_ret
     exact ⟨rfl,rfl⟩
   · have e3:=inT b hl hh
     rw [hl] at e1
     rw [hh] at e2
     generalize Fl.wb b = r at *
     have c:=zq0 b w hl hh
     have C:=y05h c
     clear c hl hh
     go_enter Tryz.func172,Tryz.ntmps172
     go_wp2_with (go_at_call 178;refine (C.out).mono ?_;rintro e w' ⟨rfl,rfl⟩)
     go_ret
     exact ⟨rfl,rfl⟩
theorem zsw (b:Nat) (w:World) :
   Calls Tryz.prog 165 #[.float .f64 b] w fun e w'=>e = .returned (.bool (Fl.wb b)) ∧ w = w':=by
 have e1:=inR b
 have e2:=inH b
 cases hl:Fl.geLo b
 · rw [show Fl.wb b = false by simp [Fl.wb,hl]]
   rw [hl] at e1
   go_enter Tryz.func165,Tryz.ntmps165
   go_wp2
   go_ret
   exact ⟨rfl,rfl⟩
 · cases hh:Fl.leHi b
   · rw [show Fl.wb b = false by simp [Fl.wb,hh]]
     rw [hl] at e1
     rw [hh] at e2
     go_enter Tryz.func165,Tryz.ntmps165
     go_wp2
     go_ret
     exact ⟨rfl,rfl⟩
   · have e3:(FloatKind.f64.format.order (floatOfInt .f64 (Fl.iv b)) b == some .eq) = Fl.wb b :=
       Fl.back_wb hl hh (Fl.ofInt_int (by have:=(Fl.trunc_int hl hh).2;omega))
     have c1:=run_convert_float_int (P:=Tryz.prog) w 22 3 .f64 .i64 b (Fl.iv b) (by kernel_rfl) (by kernel_rfl) (Fl.toInt_range hl hh)
     have c2:=run_convert_int_float (P:=Tryz.prog) w 3 22 .i64 .f64 (Fl.iv b) (by kernel_rfl) (by kernel_rfl)
     rw [hl] at e1
     rw [hh] at e2
     generalize Fl.wb b = r at *
     generalize Fl.iv b = n at *
     clear hl hh
     go_enter Tryz.func165,Tryz.ntmps165
     go_wp2
     go_ret
     exact ⟨rfl,rfl⟩
def mayB (a b:Nat):Bool:=Fl.wb a && Fl.wb b
theorem zc2 (a b:Nat) (w:World) :
   Calls Tryz.prog 150 #[.complex .f64 a b] w fun e w'=>e = .returned (.bool (mayB a b)) ∧ w = w':=by
 have H:=fun x=>y05h (zq1 x w)
 unfold mayB
 cases ha:Fl.wb a <;> cases hb:Fl.wb b <;>
 ( go_enter Tryz.func150,Tryz.ntmps150
   go_wp2_with (go_at_call 172;refine ((H _).out).mono ?_;(try rw [ha]);(try rw [hb]);rintro e w' ⟨rfl,rfl⟩)
   go_ret
   exact ⟨rfl,rfl⟩ )
theorem zeg (a b:Nat) (w:World) :
   Calls Tryz.prog 132 #[.complex .f64 a b] w fun e w'=>e = .returned (.bool (mayB a b)) ∧ w = w':=by
 have H:=fun x=>y05h (zsw x w)
 unfold mayB
 cases ha:Fl.wb a <;> cases hb:Fl.wb b <;>
 ( go_enter Tryz.func132,Tryz.ntmps132
   go_wp2_with (go_at_call 165;refine ((H _).out).mono ?_;(try rw [ha]);(try rw [hb]);rintro e w' ⟨rfl,rfl⟩)
   go_ret
   exact ⟨rfl,rfl⟩ )
end Go.Proofs.YthnllikalobmeaaGreat
