/- Joined: LCmp, LMay, Far, Pfx. -/
import Derived.Test.YthnllikalobmeaaGreatJ23
import Derived.Test.YthnllikalobmeaaGreatJ18
import Derived.Deep.DeepCutAuto
import Derived.Test.YthnllikalobmeaaGreatJ13
import Derived.Test.YthnllikalobmeaaGreatJ01
namespace Go.Proofs.YthnllikalobmeaaGreat
set_option linter.unusedVariables false
set_option linter.unusedSimpArgs false
set_option maxRecDepth 100000
set_option maxHeartbeats 8000000
open Go.RowKit
theorem y32h {p:Prop} (h:p):Hid p:=Lib.hid h
def cmpS (a b:ByteArray):Int:=if lsB a b = true then -1 else if lsB b a = true then 1 else 0
theorem zn9 (a b:ByteArray):decide (cmpS a b < 0) = lsB a b:=by
 unfold cmpS
 cases lsB a b <;> cases lsB b a <;> simp
theorem zl6 (a b:ByteArray):decide (cmpS a b = 0) = (a.toList == b.toList):=by
 unfold cmpS
 rcases zdg a b with h | h | h
 · rw [h,tl_ne.2 (zfy h)];simp
 · rw [h,zbg,tl_eq.2 rfl];simp
 · rw [zdq h,h,tl_ne.2 fun e=>zfy h e.symm];simp
theorem zo3 (a:ByteArray) (w:World) :
   Calls Tryz.prog 168 #[.string a] w fun e w'=>e = .returned (.bool false) ∧ w = w':=by
 go_enter Tryz.func168,Tryz.ntmps168
 go_wp2
 go_ret
 exact ⟨zaa (by simp),rfl⟩
theorem zkd (a b:ByteArray) (w:World) :
   Calls Tryz.prog 143 #[.string a,.string b] w fun e w'=>e = .returned (.int .i64 (cmpS a b)) ∧ w = w':=by
 have H:=fun a w=>y32h (zo3 a w)
 cases h1:Op.bytesLess a.toList b.toList
 · cases h2:(a.toList == b.toList)
   · have e:cmpS a b = 1:=by
       unfold cmpS lsB
       have:=zdg a b
       unfold lsB at this
       rcases this with h | h | h
       · rw [h1] at h;cases h
       · rw [tl_eq.2 h] at h2;cases h2
       · rw [h1,h];rfl
     rw [e]
     go_enter Tryz.func143,Tryz.ntmps143
     go_wp2_with (go_at_call 168;refine ((H _ _).out).mono ?_;rintro e w' ⟨rfl,rfl⟩)
     all_goals
       go_ret
       first | exact ⟨zb0 (by simp_all),rfl⟩ | simp_all
   · have e:cmpS a b = 0:=by
       unfold cmpS
       rw [tl_eq.1 h2,zbg];rfl
     rw [e]
     go_enter Tryz.func143,Tryz.ntmps143
     go_wp2_with (go_at_call 168;refine ((H _ _).out).mono ?_;rintro e w' ⟨rfl,rfl⟩)
     all_goals
       go_ret
       first | exact ⟨zb0 (by simp_all),rfl⟩ | simp_all
 · have e:cmpS a b = -1:=by
     unfold cmpS lsB
     rw [h1];rfl
   rw [e]
   go_enter Tryz.func143,Tryz.ntmps143
   go_wp2_with (go_at_call 168;refine ((H _ _).out).mono ?_;rintro e w' ⟨rfl,rfl⟩)
   all_goals
     go_ret
     first | exact ⟨zb0 (by simp_all),rfl⟩ | simp_all
theorem zqz (x:Itm) (id:ByteArray) (w:World) :
   Calls Tryz.prog 159 #[iV x,.string id] w fun e w'=>e = .returned (.int .i64 (cmpS x.id id)) ∧ Below w.heap.size w w':=by
 have H:=fun a b w=>y32h (zkd a b w)
 have BEL:=y32h ((Below.refl w.heap.size w).alloc (Nat.le_refl _) (.cells (iA x) 69))
 go_enter Tryz.func159,Tryz.ntmps159
 go_wp2_with (go_at_call 143;refine ((H _ _ _).out).mono ?_;rintro e w' ⟨rfl,rfl⟩)
 go_ret
 exact ⟨rfl,BEL.out⟩
def z1m (k len:Nat) (w:World) (iv jv:Value) (wr:World):Prop :=
 ∃ i j:Nat,iv = .int .i64 i ∧ jv = .int .i64 j ∧ i ≤ k ∧ k ≤ j ∧ j ≤ len ∧ Hid (Below w.heap.size w wr)
theorem zm1 (l:List Itm) (id:ByteArray) (v:Value) (w:World) (hR:Row 8 ic w l v) (hr:zao l) (hl:l.length ≤ 10000) :
   Calls Tryz.prog 158 #[v,.string id,.func (.func 159) #[] #[]] w fun e w'=>e = .returned (.tuple #[.int .i64 (posI l id),.bool (hitI l id)]) ∧ Below w.heap.size w w':=by
 obtain ⟨oa,cap,b,o,rfl,hR⟩:=hR
 have HR:=y32h hR
 have HC:=fun x w=>y32h (zqz x id w)
 have hcap:=hR.len
 have hmax:=hR.max
 unfold maxLen at hmax
 have PI:=fun (j:Nat) (i:Itm) (h:l[j]? = some i)=>y32h (zlu (id:=id) hr h)
 have hk:=zgj l id
 have HH:=y32h (show ∀ i,l[posI l id]? = some i → hitI l id = (i.id.toList == id.toList) from fun i hi=>by unfold hitI;rw [hi])
 have HN0:=y32h (show l[posI l id]? = none → hitI l id = false from fun hi=>by unfold hitI;rw [hi])
 clear hR hr
 generalize hn:l.length = len at *
 have HN:=y32h hn
 clear hn
 generalize posI l id = k at *
 generalize hitI l id = hit at *
 go_enter Tryz.func158,Tryz.ntmps158
 go_wp2_with fail
 go_loopw [9,10] (fun iv jv wr=>z1m k len w iv jv wr) (fun iv jv _=>(intOf jv).toNat - (intOf iv).toNat)
 case atStart=>exact ⟨0,len,rfl,rfl,Nat.zero_le _,hk,Nat.le_refl _,Below.refl _ _⟩
 case round =>
   obtain ⟨i,j,rfl,rfl,hi,hj,hjl,HB⟩:=hrel
   by_cases hlt:i < j
   · obtain ⟨x,hx⟩:∃ x,l[(i + j) / 2]? = some x:=⟨_,List.getElem?_eq_getElem (by rw [HN.out];omega)⟩
     obtain ⟨rfl,hb0⟩:=HR.out.at0 (by rw [HN.out];omega)
     obtain ⟨c0,c1,c2,c3,c4,c5,c6,c7⟩:=zav (w:=wr) (fun q u hu=>(HB.out.cell (p:=⟨b,o + (i + j) / 2 * 8 + q,none⟩) hb0).trans (HR.out.cell _ x hx q u hu))
     have zb:=Nat.lt_of_lt_of_le hb0 HB.out.size
     have P:=PI _ _ hx
     have k1:(i:Int) < (j:Int):=by omega
     have h1:(i + j) / 2 < j:=by omega
     have h2:i ≤ (i + j) / 2:=by omega
     have e1:((i:Int) + (j:Int)) / 2 = (((i + j) / 2:Nat):Int):=by omega
     generalize (i + j) / 2 = h at *
     have q0:(0:Int) ≤ (h:Int):=by omega
     have q1:(h:Int) < (len:Int):=by omega
     cases hs:lsB x.id id
     · have g:decide (cmpS x.id id < 0) = false:=by rw [zn9];exact hs
       have hle:k ≤ h:=by have:=P.out;rw [hs] at this;have:=of_decide_eq_false this.symm;omega
       clear P PI HH HN0 hs
       go_wp2_with (go_at_call 159;refine (HC _ _).out.mono ?_;rintro e w' ⟨rfl,hb⟩)
       go_roundw
       case rel=>exact ⟨i,h,rfl,rfl,hi,hle,by omega,y32h (HB.out.trans (hb.mono HB.out.size))⟩
       case measure=>simp [intOf];omega
     · have g:decide (cmpS x.id id < 0) = true:=by rw [zn9];exact hs
       have hle:h < k:=by have:=P.out;rw [hs] at this;have:=of_decide_eq_true this.symm;omega
       clear P PI HH HN0 hs
       go_wp2_with (go_at_call 159;refine (HC _ _).out.mono ?_;rintro e w' ⟨rfl,hb⟩)
       go_roundw
       case rel=>exact ⟨h + 1,j,by go_num,rfl,hle,hj,hjl,y32h (HB.out.trans (hb.mono HB.out.size))⟩
       case measure=>simp [intOf];omega
   · have e:i = k:=by omega
     subst e
     have e:j = i:=by omega
     subst e
     clear hi hj
     by_cases hlt2:j < len
     · obtain ⟨x,hx⟩:∃ x,l[j]? = some x:=⟨_,List.getElem?_eq_getElem (by rw [HN.out];omega)⟩
       obtain ⟨rfl,hb0⟩:=HR.out.at0 (by rw [HN.out];omega)
       obtain ⟨c0,c1,c2,c3,c4,c5,c6,c7⟩:=zav (w:=wr) (fun q u hu=>(HB.out.cell (p:=⟨b,o + j * 8 + q,none⟩) hb0).trans (HR.out.cell _ x hx q u hu))
       have zb:=Nat.lt_of_lt_of_le hb0 HB.out.size
       have q0:(0:Int) ≤ (j:Int):=by omega
       have q1:(j:Int) < (len:Int):=by omega
       have E:=y32h (HH.out x hx)
       clear PI HH HN0 hx
       cases hs:(x.id.toList == id.toList)
       · have g:(cmpS x.id id == 0) = false:=by
           have:=zl6 x.id id;rw [hs] at this
           rw [beq_eq_false_iff_ne];exact of_decide_eq_false this
         have E:=y32h (E.out.trans hs)
         go_wp2_with (go_at_call 159;refine (HC _ _).out.mono ?_;rintro e w' ⟨rfl,hb⟩)
         go_ret2
         exact ⟨by rw [E.out];rfl,HB.out.trans (hb.mono HB.out.size)⟩
       · have g:(cmpS x.id id == 0) = true:=by
           have:=zl6 x.id id;rw [hs] at this
           rw [beq_iff_eq];exact of_decide_eq_true this
         have E:=y32h (E.out.trans hs)
         go_wp2_with (go_at_call 159;refine (HC _ _).out.mono ?_;rintro e w' ⟨rfl,hb⟩)
         go_ret2
         exact ⟨by rw [E.out];rfl,HB.out.trans (hb.mono HB.out.size)⟩
     · have E:=y32h (HN0.out (List.getElem?_eq_none (by rw [HN.out];omega)))
       go_wp2_with fail
       go_ret2
       exact ⟨by rw [E.out];rfl,HB.out⟩
theorem zhc (l:List Itm) (id:ByteArray) (v:Value) (w:World) (hR:Row 8 ic w l v) (hr:zao l) (hl:l.length ≤ 10000) :
   Calls Tryz.prog 121 #[v,.string id] w fun e w'=>e = .returned (.tuple #[.int .i64 (posI l id),.int .i64 (toI l id)]) ∧ Below w.heap.size w w':=by
 have H:=y32h (zm1 l id v w hR hr hl)
 obtain ⟨oa,cap,rfl⟩:=hR.val
 have hk:=zgj l id
 unfold toI
 clear hR hr
 generalize hitI l id = hit at *
 generalize posI l id = k at *
 cases hit
 · go_enter Tryz.func121,Tryz.ntmps121
   go_wp2_with (go_at_call 158;refine H.out.mono ?_;rintro e w' ⟨rfl,hb⟩)
   go_ret2
   exact ⟨rfl,hb⟩
 · go_enter Tryz.func121,Tryz.ntmps121
   go_wp2_with (go_at_call 158;refine H.out.mono ?_;rintro e w' ⟨rfl,hb⟩)
   go_ret2
   exact ⟨rfl,hb⟩
theorem zkx (i:Itm) (w:World) :
   Calls Tryz.prog 114 #[iV i] w fun e w'=>e = .returned (.bool (mayT i)) ∧ Below w.heap.size w w' :=
 zm8 i.id i.r i.c i.st i.kd i.num i.x i.y i.d w
theorem zuv {l:List Itm} (h1:∀ j a,j < l.length → l[j]? = some a → mayT a = true) (h2:∀ j a b,j + 1 < l.length → l[j]? = some a → l[j + 1]? = some b → upB a b = true):zba l = true:=by
 unfold zba
 rw [zl4 h1,rises_iff.2 fun j a b ha hb=>h2 j a b (zbs hb) ha hb];rfl
theorem zss {l:List Itm} {k:Nat} {i:Itm} (hi:l[k]? = some i) (h:mayT i = false):zba l = false:=by
 unfold zba;rw [zj5 hi h];rfl
theorem zwv {l:List Itm} {k:Nat} {a b:Itm} (ha:l[k]? = some a) (hb:l[k + 1]? = some b) (h:upB a b = false):zba l = false:=by
 unfold zba;rw [zje ha hb h,Bool.and_false]
def zyq (l:List Itm) (len:Nat) (w:World) (iv:Value) (wr:World):Prop :=
 ∃ k:Nat,k ≤ len ∧ iv = .int .i64 k ∧ Hid (∀ j a,j < k → l[j]? = some a → mayT a = true) ∧ Hid (∀ j a b,j + 1 < k → l[j]? = some a → l[j + 1]? = some b → upB a b = true) ∧ Hid (Below w.heap.size w wr)
theorem zhi (l:List Itm) (v:Value) (w:World) (hR:Row 8 ic w l v) (_:l.length ≤ 1000) :
   Calls Tryz.prog 73 #[v] w fun e w'=>e = .returned (.bool (zba l)) ∧ Below w.heap.size w w':=by
 obtain ⟨oa,cap,b,o,rfl,hr⟩:=hR
 have HR:=y32h hr
 have HM:=fun i w=>zkx i w
 have hcap:=hr.len
 have hmax:=hr.max
 unfold maxLen at hmax
 clear hr
 generalize hn:l.length = len at *
 have HN:=y32h hn
 clear hn
 go_enter Tryz.func73,Tryz.ntmps73
 go_wp2_with fail
 go_loopw [7] (fun iv wr=>zyq l len w iv wr) (fun iv _=>len - (intOf iv).toNat)
 case atStart=>exact ⟨0,Nat.zero_le _,rfl,fun j a hj=>absurd hj (by omega),fun j a b hj=>absurd hj (by omega),Below.refl _ _⟩
 case round =>
   obtain ⟨k,hk,rfl,HS,HU,HB⟩:=hrel
   by_cases hlt:k < len
   · obtain ⟨i,hi9⟩:∃ i,l[k]? = some i:=⟨_,List.getElem?_eq_getElem (by rw [HN.out];omega)⟩
     obtain ⟨rfl,hb0⟩:=HR.out.at0 (by rw [HN.out];omega)
     obtain ⟨c0,c1,c2,c3,c4,c5,c6,c7⟩:=zav (w:=wr) (fun j u hu=>(HB.out.cell (p:=⟨b,o + k * 8 + j,none⟩) hb0).trans (HR.out.cell k i hi9 j u hu))
     have zb:=Nat.lt_of_lt_of_le hb0 HB.out.size
     have O:=Has.new wr (iA i) 69
     have HB1:=y32h (HB.out.alloc HB.out.size (.cells (iA i) 69))
     have r0:=fun dd os=>cell_regrown (O.cell 0) dd os
     have r1:=fun dd os=>cell_regrown (O.cell 1) dd os
     have r2:=fun dd os=>cell_regrown (O.cell 2) dd os
     have r3:=fun dd os=>cell_regrown (O.cell 3) dd os
     have r4:=fun dd os=>cell_regrown (O.cell 4) dd os
     have r5:=fun dd os=>cell_regrown (O.cell 5) dd os
     have r6:=fun dd os=>cell_regrown (O.cell 6) dd os
     have r7:=fun dd os=>cell_regrown (O.cell 7) dd os
     have m1:=fun dd os=>y32h (Calls.regrown_of (HM i (Sort.grow (redrawn (wr.alloc (.cells (iA i) 69)) dd) os)))
     have k0:(0:Int) ≤ (k:Int):=by omega
     have k1:(k:Int) < (len:Int):=by omega
     have HI:=y32h hi9
     clear hi9 O HM
     cases ht:mayT i
     · have E:=y32h (zss HI.out ht)
       rw [ht] at m1
       clear ht
       go_wp2_with fail
       refine wp_region_quiet_below (by kernel_rfl) (by kernel_rfl) ?_
       repeat (first | go_big_quiet_step ((with_reducible exact (m1 _ _).out)) | quiet_step ((with_reducible exact (m1 _ _).out)))
       refine wpQuiet_nil ?_
       intro w7 hw'
       have hb':=y32h (zac hw')
       clear hw'
       clear m1
       go_wp2_with fail
       go_ret
       exact ⟨zaa E.out.symm,HB1.out.trans (hb'.out.mono HB1.out.size)⟩
     · have HS2:=y32h (zl3 HS.out HI.out ht)
       rw [ht] at m1
       clear ht
       by_cases hk0:k = 0
       · subst hk0
         simp only [Nat.zero_mul,Nat.add_zero] at c0 c1 c2 c3 c4 c5 c6 c7
         have HU2:=y32h (show ∀ j a b,j + 1 < 0 + 1 → l[j]? = some a → l[j + 1]? = some b → upB a b = true from fun j a b hj=>absurd hj (by omega))
         go_wp2_with fail
         refine wp_region_quiet_below (by kernel_rfl) (by kernel_rfl) ?_
         repeat (first | go_big_quiet_step ((with_reducible exact (m1 _ _).out)) | quiet_step ((with_reducible exact (m1 _ _).out)))
         refine wpQuiet_nil ?_
         intro w7 hw'
         have hb':=y32h (zac hw')
         clear hw'
         clear m1 r0 r1 r2 r3 r4 r5 r6 r7
         go_wp2_with fail
         go_roundw
         case rel=>exact ⟨0 + 1,by omega,by go_num,HS2.out,HU2.out,y32h (HB1.out.trans (hb'.out.mono HB1.out.size))⟩
         case measure=>simp [intOf];omega
       · obtain ⟨q,rfl⟩:∃ q,k = q + 1:=⟨k - 1,by omega⟩
         obtain ⟨y,hy9⟩:∃ y,l[q]? = some y:=⟨_,List.getElem?_eq_getElem (by rw [HN.out];omega)⟩
         have d0:=(zav (w:=wr.alloc (.cells (iA i) 69)) (fun j u hu=>(HB1.out.cell (p:=⟨b,o + q * 8 + j,none⟩) hb0).trans (HR.out.cell q y hy9 j u hu))).1
         have s0:=fun dd os=>cell_regrown d0 dd os
         have p0:(0:Int) < ((q + 1:Nat):Int):=by omega
         have p1:((q + 1:Nat):Int) - 1 = (q:Int):=by omega
         have p2:(q:Int) < (len:Int):=by omega
         have p3:(0:Int) ≤ (q:Int):=by omega
         have HY:=y32h hy9
         clear d0 hy9
         cases hu:upB y i
         · have E:=y32h (zwv HY.out HI.out hu)
           have hg:Op.bytesLess y.id.toList i.id.toList = false:=by rw [ztg] at hu;exact hu
           clear hu
           go_wp2_with fail
           refine wp_region_quiet_below (by kernel_rfl) (by kernel_rfl) ?_
           repeat (first | go_big_quiet_step ((with_reducible exact (m1 _ _).out)) | quiet_step ((with_reducible exact (m1 _ _).out)))
           refine wpQuiet_nil ?_
           intro w7 hw'
           have hb':=y32h (zac hw')
           clear hw'
           clear m1
           go_wp2_with fail
           go_ret
           exact ⟨zaa E.out.symm,HB1.out.trans (hb'.out.mono HB1.out.size)⟩
         · have hg:Op.bytesLess y.id.toList i.id.toList = true:=by rw [ztg] at hu;exact hu
           have HU2:=y32h (show ∀ j a b,j + 1 < q + 1 + 1 → l[j]? = some a → l[j + 1]? = some b → upB a b = true from fun j a b hj ha hb=>by
             by_cases e:j = q
             · subst e;rw [HY.out] at ha;rw [HI.out] at hb;cases ha;cases hb;exact hu
             · exact HU.out j a b (by omega) ha hb)
           clear hu
           go_wp2_with fail
           refine wp_region_quiet_below (by kernel_rfl) (by kernel_rfl) ?_
           repeat (first | go_big_quiet_step ((with_reducible exact (m1 _ _).out)) | quiet_step ((with_reducible exact (m1 _ _).out)))
           refine wpQuiet_nil ?_
           intro w7 hw'
           have hb':=y32h (zac hw')
           clear hw'
           clear m1 r0 r1 r2 r3 r4 r5 r6 r7 s0
           go_wp2_with fail
           go_roundw
           case rel=>exact ⟨q + 1 + 1,by omega,by go_num,HS2.out,HU2.out,y32h (HB1.out.trans (hb'.out.mono HB1.out.size))⟩
           case measure=>simp [intOf];omega
   · have E:=y32h (zuv (l:=l) (fun j a hj ha=>HS.out j a (by rw [HN.out] at hj;omega) ha) (fun j a b hj ha hb=>HU.out j a b (by rw [HN.out] at hj;omega) ha hb))
     go_wp2_with fail
     go_ret
     exact ⟨zaa E.out.symm,HB.out⟩
theorem zen (l:List Itm) (id:ByteArray) (v:Value) (w:World) (hR:Row 8 ic w l v) (hr:zao l) (hl:l.length ≤ 1000) (_:id.size ≤ maxLen) :
   Calls Tryz.prog 75 #[v,.string id] w fun e w'=>e = .returned (.tuple #[iV (getI l id).1,.bool (getI l id).2]) ∧ Below w.heap.size w w':=by
 have LR:=y32h (hR.alloc (.cells (iA Itm.zero) 69))
 have S:=y32h (zhc l id v _ LR.out hr (by omega))
 have OT:=y32h (Own.new w (iA Itm.zero) 69)
 have BEL:=y32h ((Below.refl w.heap.size w).alloc (Nat.le_refl _) (.cells (iA Itm.zero) 69))
 clear hR
 cases hh:hitI l id
 · have e:=zub hr hh
   have et:toI l id = posI l id:=by unfold toI;rw [hh];rfl
   rw [e]
   rw [et] at S
   clear hr hh
   obtain ⟨oa,cap,rfl⟩:=LR.out.val
   have hk:=zgj l id
   clear e et
   generalize posI l id = k at *
   go_enter Tryz.func75,Tryz.ntmps75
   go_wp2_with (go_at_call 121;refine S.out.mono ?_;rintro e w' ⟨rfl,hb⟩;replace OT:=y32h (OT.out.later hb);replace BEL:=y32h (BEL.out.trans (hb.mono BEL.out.size));have l1:=OT.out.cell;have f1:=OT.out.free;have z1:=OT.out.lt)
   have key:=And.intro (zbl OT.out (.string ⟨#[]⟩) (.int .i64 0) (.int .i64 0) (.int .i64 0) (.string ⟨#[]⟩) (.int .i64 0) (.complex .f64 0 0) (.bool false)) (za3 (b:=w.heap.size) BEL.out (Nat.le_refl _) (.string ⟨#[]⟩) (.int .i64 0) (.int .i64 0) (.int .i64 0) (.string ⟨#[]⟩) (.int .i64 0) (.complex .f64 0 0) (.bool false))
   unfold st8 at key
   revert key
   generalize World.setCell (World.setCell (World.setCell (World.setCell (World.setCell (World.setCell (World.setCell (World.setCell _ _ _) _ _) _ _) _ _) _ _) _ _) _ _) _ _ = WW
   rintro ⟨of,bf⟩
   exact zae (by rfl) (by rfl) (by rfl) (l:=ic Itm.zero) of.range Tryz.underlying69 (by rfl) (by kernel_rfl) rfl ⟨rfl,bf⟩
 · obtain ⟨i,hi,e⟩:=zwk hr hh
   have et:toI l id = posI l id + 1:=by unfold toI;rw [hh];rfl
   rw [e]
   rw [et] at S
   clear hr hh
   obtain ⟨oa,cap,b,o,rfl,hL⟩:=LR.out
   have hk:=zbs hi
   clear e et
   generalize posI l id = k at *
   obtain ⟨rfl,hb0⟩:=hL.at0 (by omega)
   have cs:=fun j u hu=>hL.cell k i hi j u hu
   have k0:(0:Int) ≤ (k:Int):=by omega
   have k1:(k:Int) < (l.length:Int):=by omega
   have CS:=y32h cs
   have hne:decide ((k:Int) = (k:Int) + 1) = false:=decide_eq_false (by omega)
   have hne2:((k:Int) == (k:Int) + 1) = false:=by rw [beq_eq_false_iff_ne];omega
   clear cs hL
   go_enter Tryz.func75,Tryz.ntmps75
   go_wp2_with (go_at_call 121;refine S.out.mono ?_;rintro e w' ⟨rfl,hb⟩;obtain ⟨c0,c1,c2,c3,c4,c5,c6,c7⟩:=zav (w:=w') (fun j u hu=>(hb.cell (p:=⟨b,o + k * 8 + j,none⟩) hb0).trans (CS.out j u hu));have zb:=Nat.lt_of_lt_of_le hb0 hb.size;replace OT:=y32h (OT.out.later hb);replace BEL:=y32h (BEL.out.trans (hb.mono BEL.out.size));have l1:=OT.out.cell;have f1:=OT.out.free;have z1:=OT.out.lt)
   have key:=And.intro (zbl OT.out (.string i.id) (.int .i64 i.r) (.int .i64 i.c) (.int .i64 i.st) (.string i.kd) (.int .i64 i.num) (.complex .f64 i.x i.y) (.bool i.d)) (za3 (b:=w.heap.size) BEL.out (Nat.le_refl _) (.string i.id) (.int .i64 i.r) (.int .i64 i.c) (.int .i64 i.st) (.string i.kd) (.int .i64 i.num) (.complex .f64 i.x i.y) (.bool i.d))
   unfold st8 at key
   revert key
   generalize World.setCell (World.setCell (World.setCell (World.setCell (World.setCell (World.setCell (World.setCell (World.setCell _ _ _) _ _) _ _) _ _) _ _) _ _) _ _) _ _ = WW
   rintro ⟨of,bf⟩
   exact zae (by rfl) (by rfl) (by rfl) (l:=ic i) of.range Tryz.underlying69 (by rfl) (by kernel_rfl) rfl ⟨rfl,bf⟩
theorem zt5 (a b c d:Nat) (w:World) :
   Calls Tryz.prog 111 #[.complex .f64 a b,.complex .f64 c d] w fun e w'=>e = .returned (.int .i64 (farV a b c d)) ∧ w = w':=by
 unfold farV
 cases h1:mayB a b
 · have H:=fun x y=>y32h (zc2 x y w)
   go_enter Tryz.func111,Tryz.ntmps111
   go_wp2_with (go_at_call 150;refine ((H _ _).out).mono ?_;rw [h1];rintro e w' ⟨rfl,rfl⟩)
   go_ret
   exact ⟨rfl,rfl⟩
 · cases h2:mayB c d
   · have H1:=y32h (zc2 a b w)
     have H2:=y32h (zc2 c d w)
     go_enter Tryz.func111,Tryz.ntmps111
     go_wp2_with fail
     refine ((H1).out).mono ?_
     rw [h1];rintro e w' ⟨rfl,rfl⟩
     go_wp2_with fail
     refine ((H2).out).mono ?_
     rw [h2];rintro e w' ⟨rfl,rfl⟩
     go_wp2
     go_ret
     exact ⟨rfl,rfl⟩
   · have H1:=y32h (zc2 a b w)
     have H2:=y32h (zc2 c d w)
     obtain ⟨ia,ib,ba,bb⟩:=zds h1
     obtain ⟨ic,id,bc,bd⟩:=zds h2
     obtain ⟨re,hre,ire⟩:=Fl.diff_int ia ic (by omega)
     obtain ⟨im,him,iim⟩:=Fl.diff_int ib id (by omega)
     have hs:cSumBits .sub .f64 a b c d = some (re,im):=by
       have e1:floatBits .sub .f64 a c = some re:=hre
       have e2:floatBits .sub .f64 b d = some im:=him
       simp [cSumBits,e1,e2]
     have k1:=run_complex_sum (P:=Tryz.prog) w .sub (.inr rfl) 37 .f64 a b c d re im hs
     have k2:=run_convert_float_int (P:=Tryz.prog) w 22 3 .f64 .i64 re _ (by kernel_rfl) (by kernel_rfl) (Fl.toIntVal_int ire (by omega))
     have k3:=run_convert_float_int (P:=Tryz.prog) w 22 3 .f64 .i64 im _ (by kernel_rfl) (by kernel_rfl) (Fl.toIntVal_int iim (by omega))
     simp only [Bool.and_self,if_true]
     generalize hp:Fl.iv a - Fl.iv c = p at *
     generalize hq:Fl.iv b - Fl.iv d = q at *
     have hp1:-2000 ≤ p:=by omega
     have hp2:p ≤ 2000:=by omega
     have hq1:-2000 ≤ q:=by omega
     have hq2:q ≤ 2000:=by omega
     obtain ⟨sp1,sp2⟩:=ziu hp1 hp2
     obtain ⟨sq1,sq2⟩:=ziu hq1 hq2
     clear hp hq ia ib ba bb ic id bc bd hre him ire iim hs
     have h1':=y32h h1
     have h2':=y32h h2
     clear h1 h2
     go_enter Tryz.func111,Tryz.ntmps111
     go_wp2_with fail
     refine ((H1).out).mono ?_
     rw [h1'.out];rintro e w' ⟨rfl,rfl⟩
     go_wp2_with fail
     refine ((H2).out).mono ?_
     rw [h2'.out];rintro e w' ⟨rfl,rfl⟩
     go_wp2
     go_ret
     exact ⟨rfl,rfl⟩
theorem zst (a b c d:Nat) (n:Int) (w:World) :
   Calls Tryz.prog 65 #[.complex .f64 a b,.complex .f64 c d,.int .i64 n] w fun e w'=>e = .returned (.bool (zit a b c d n)) ∧ w = w':=by
 have H:=y32h (zt5 a b c d w)
 obtain ⟨h1,h2⟩:=zy3 a b c d
 unfold zit
 generalize farV a b c d = f at *
 by_cases h0:f = -1
 · subst h0
   go_enter Tryz.func65,Tryz.ntmps65
   go_wp2_with (go_at_call 111;refine (H.out).mono ?_;rintro e w' ⟨rfl,rfl⟩)
   go_ret
   exact ⟨rfl,rfl⟩
 · have h3:(f != -1) = true:=by simp [h0]
   have h4:decide (0 ≤ f) = true:=by simp;omega
   rw [h4]
   have h4':0 ≤ f:=by omega
   clear h4 h0
   go_enter Tryz.func65,Tryz.ntmps65
   go_wp2_with (go_at_call 111;refine (H.out).mono ?_;rintro e w' ⟨rfl,rfl⟩)
   go_ret
   exact ⟨by simp,rfl⟩
theorem zts {s t:ByteArray} (h:s.size < t.size):begB s t = false:=by
 unfold begB
 cases h1:t.data.toList.isPrefixOf s.data.toList with
 | false=>rfl
 | true =>
   have h3:=(List.isPrefixOf_iff_prefix.1 h1).length_le
   have e1:t.data.toList.length = t.size:=by simp
   have e2:s.data.toList.length = s.size:=by simp
   omega
theorem zv3 {s t:ByteArray} (h:t.size ≤ s.size):begB s t = (s.data.toList.take t.size == t.data.toList):=by
 unfold begB
 rw [Bool.eq_iff_iff,List.isPrefixOf_iff_prefix,beq_iff_eq,List.prefix_iff_eq_take]
 have e1:t.data.toList.length = t.size:=by simp
 rw [e1]
 exact eq_comm
theorem znf (s t:ByteArray) (w:World) (hs:s.size ≤ maxLen) (ht:t.size ≤ maxLen) :
   Calls Tryz.prog 110 #[.string s,.string t] w fun e w'=>e = .returned (.bool (begB s t)) ∧ w = w':=by
 unfold maxLen at hs ht
 by_cases h:t.size ≤ s.size
 · have E:=y32h (zv3 h)
   have h1:(t.size:Int) ≤ (s.size:Int):=by omega
   go_enter Tryz.func110,Tryz.ntmps110
   go_wp2_with fail
   go_ret
   refine ⟨zaa ?_,rfl⟩
   rw [E.out]
   rw [ByteArray.toList_eq,ByteArray.toList_eq]
   simp [ByteArray.data_extract]
 · have E:=y32h (zts (s:=s) (t:=t) (by omega))
   have h1:(s.size:Int) < (t.size:Int):=by omega
   go_enter Tryz.func110,Tryz.ntmps110
   go_wp2_with fail
   go_ret
   exact ⟨zaa E.out.symm,rfl⟩
theorem zpk (s t:ByteArray) (w:World) (hs:s.size ≤ maxLen) (ht:t.size ≤ maxLen) :
   Calls Tryz.prog 64 #[.string s,.string t] w fun e w'=>e = .returned (.bool (begB s t)) ∧ w = w':=by
 have H:=y32h (znf s t w hs ht)
 go_enter Tryz.func64,Tryz.ntmps64
 go_wp2_with (go_at_call 110;refine (H.out).mono ?_;rintro e w' ⟨rfl,rfl⟩)
 go_ret
 exact ⟨rfl,rfl⟩
end Go.Proofs.YthnllikalobmeaaGreat
