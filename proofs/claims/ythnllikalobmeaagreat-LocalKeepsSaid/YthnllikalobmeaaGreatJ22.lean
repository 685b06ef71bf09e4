/- Joined: LMay, HasC, RefSame, LPut. -/
import Derived.Test.YthnllikalobmeaaGreatJ21
import Derived.Test.YthnllikalobmeaaGreatJ07
import Derived.Deep.DeepCutAuto
import Derived.Test.YthnllikalobmeaaGreatJ19
import Derived.Test.YthnllikalobmeaaGreatJ17
import Derived.Deep.RegionLaw
import Derived.Deep.RegionHeld3
namespace Go.Proofs.YthnllikalobmeaaGreat
set_option linter.unusedVariables false
set_option linter.unusedSimpArgs false
set_option maxRecDepth 100000
set_option maxHeartbeats 8000000
open Go.RowKit
theorem y22h {p:Prop} (h:p):Hid p:=Lib.hid h
theorem zjb (i:Itm) (w:World) :
   Calls Tryz.prog 114 #[iV i] w fun e w'=>e = .returned (.bool (mayT i)) ∧ Below w.heap.size w w' :=
 zk7 i.id i.r i.c i.st i.kd i.num i.x i.y i.d w
theorem zrj {l:List Itm} (h1:∀ j a,j < l.length → l[j]? = some a → mayT a = true) (h2:∀ j a b,j + 1 < l.length → l[j]? = some a → l[j + 1]? = some b → upB a b = true):zbc l = true:=by
 unfold zbc
 rw [zqk h1,rises_iff.2 fun j a b ha hb=>h2 j a b (zbj hb) ha hb];rfl
theorem zpw {l:List Itm} {k:Nat} {i:Itm} (hi:l[k]? = some i) (h:mayT i = false):zbc l = false:=by
 unfold zbc;rw [zoy hi h];rfl
theorem ztj {l:List Itm} {k:Nat} {a b:Itm} (ha:l[k]? = some a) (hb:l[k + 1]? = some b) (h:upB a b = false):zbc l = false:=by
 unfold zbc;rw [znw ha hb h,Bool.and_false]
def zut (l:List Itm) (len:Nat) (w:World) (iv:Value) (wr:World):Prop :=
 ∃ k:Nat,k ≤ len ∧ iv = .int .i64 k ∧ Hid (∀ j a,j < k → l[j]? = some a → mayT a = true) ∧ Hid (∀ j a b,j + 1 < k → l[j]? = some a → l[j + 1]? = some b → upB a b = true) ∧ Hid (Below w.heap.size w wr)
theorem zgc (l:List Itm) (v:Value) (w:World) (hR:Row 8 ic w l v) (_:l.length ≤ 1000) :
   Calls Tryz.prog 73 #[v] w fun e w'=>e = .returned (.bool (zbc l)) ∧ Below w.heap.size w w':=by
 obtain ⟨oa,cap,b,o,rfl,hr⟩:=hR
 have HR:=y22h hr
 have HM:=fun i w=>zjb i w
 have hcap:=hr.len
 have hmax:=hr.max
 unfold maxLen at hmax
 clear hr
 generalize hn:l.length = len at *
 have HN:=y22h hn
 clear hn
 go_enter Tryz.func73,Tryz.ntmps73
 go_wp2_with fail
 go_loopw [7] (fun iv wr=>zut l len w iv wr) (fun iv _=>len - (intOf iv).toNat)
 case atStart=>exact ⟨0,Nat.zero_le _,rfl,fun j a hj=>absurd hj (by omega),fun j a b hj=>absurd hj (by omega),Below.refl _ _⟩
 case round =>
   obtain ⟨k,hk,rfl,HS,HU,HB⟩:=hrel
   by_cases hlt:k < len
   · obtain ⟨i,hi9⟩:∃ i,l[k]? = some i:=⟨_,List.getElem?_eq_getElem (by rw [HN.out];omega)⟩
     obtain ⟨rfl,hb0⟩:=HR.out.at0 (by rw [HN.out];omega)
     obtain ⟨c0,c1,c2,c3,c4,c5,c6,c7⟩:=zaw (w:=wr) (fun j u hu=>(HB.out.cell (p:=⟨b,o + k * 8 + j,none⟩) hb0).trans (HR.out.cell k i hi9 j u hu))
     have zb:=Nat.lt_of_lt_of_le hb0 HB.out.size
     have O:=Has.new wr (iA i) 69
     have HB1:=y22h (HB.out.alloc HB.out.size (.cells (iA i) 69))
     have r0:=fun dd os=>cell_regrown (O.cell 0) dd os
     have r1:=fun dd os=>cell_regrown (O.cell 1) dd os
     have r2:=fun dd os=>cell_regrown (O.cell 2) dd os
     have r3:=fun dd os=>cell_regrown (O.cell 3) dd os
     have r4:=fun dd os=>cell_regrown (O.cell 4) dd os
     have r5:=fun dd os=>cell_regrown (O.cell 5) dd os
     have r6:=fun dd os=>cell_regrown (O.cell 6) dd os
     have r7:=fun dd os=>cell_regrown (O.cell 7) dd os
     have m1:=fun dd os=>y22h (Calls.regrown_of (HM i (Sort.grow (redrawn (wr.alloc (.cells (iA i) 69)) dd) os)))
     have k0:(0:Int) ≤ (k:Int):=by omega
     have k1:(k:Int) < (len:Int):=by omega
     have HI:=y22h hi9
     clear hi9 O HM
     cases ht:mayT i
     · have E:=y22h (zpw HI.out ht)
       rw [ht] at m1
       clear ht
       go_wp2_with fail
       refine wp_region_quiet_below (by kernel_rfl) (by kernel_rfl) ?_
       repeat (first | go_big_quiet_step ((with_reducible exact (m1 _ _).out)) | quiet_step ((with_reducible exact (m1 _ _).out)))
       refine wpQuiet_nil ?_
       intro w7 hw'
       have hb':=y22h (zae hw')
       clear hw'
       clear m1
       go_wp2_with fail
       go_ret
       exact ⟨zaa E.out.symm,HB1.out.trans (hb'.out.mono HB1.out.size)⟩
     · have HS2:=y22h (zqj HS.out HI.out ht)
       rw [ht] at m1
       clear ht
       by_cases hk0:k = 0
       · subst hk0
         simp only [Nat.zero_mul,Nat.add_zero] at c0 c1 c2 c3 c4 c5 c6 c7
         have HU2:=y22h (show ∀ j a b,j + 1 < 0 + 1 → l[j]? = some a → l[j + 1]? = some b → upB a b = true from fun j a b hj=>absurd hj (by omega))
         go_wp2_with fail
         refine wp_region_quiet_below (by kernel_rfl) (by kernel_rfl) ?_
         repeat (first | go_big_quiet_step ((with_reducible exact (m1 _ _).out)) | quiet_step ((with_reducible exact (m1 _ _).out)))
         refine wpQuiet_nil ?_
         intro w7 hw'
         have hb':=y22h (zae hw')
         clear hw'
         clear m1 r0 r1 r2 r3 r4 r5 r6 r7
         go_wp2_with fail
         go_roundw
         case rel=>exact ⟨0 + 1,by omega,by go_num,HS2.out,HU2.out,y22h (HB1.out.trans (hb'.out.mono HB1.out.size))⟩
         case measure=>simp [intOf];omega
       · obtain ⟨q,rfl⟩:∃ q,k = q + 1:=⟨k - 1,by omega⟩
         obtain ⟨y,hy9⟩:∃ y,l[q]? = some y:=⟨_,List.getElem?_eq_getElem (by rw [HN.out];omega)⟩
         have d0:=(zaw (w:=wr.alloc (.cells (iA i) 69)) (fun j u hu=>(HB1.out.cell (p:=⟨b,o + q * 8 + j,none⟩) hb0).trans (HR.out.cell q y hy9 j u hu))).1
         have s0:=fun dd os=>cell_regrown d0 dd os
         have p0:(0:Int) < ((q + 1:Nat):Int):=by omega
         have p1:((q + 1:Nat):Int) - 1 = (q:Int):=by omega
         have p2:(q:Int) < (len:Int):=by omega
         have p3:(0:Int) ≤ (q:Int):=by omega
         have HY:=y22h hy9
         clear d0 hy9
         cases hu:upB y i
         · have E:=y22h (ztj HY.out HI.out hu)
           have hg:Op.bytesLess y.id.toList i.id.toList = false:=by rw [zqd] at hu;exact hu
           clear hu
           go_wp2_with fail
           refine wp_region_quiet_below (by kernel_rfl) (by kernel_rfl) ?_
           repeat (first | go_big_quiet_step ((with_reducible exact (m1 _ _).out)) | quiet_step ((with_reducible exact (m1 _ _).out)))
           refine wpQuiet_nil ?_
           intro w7 hw'
           have hb':=y22h (zae hw')
           clear hw'
           clear m1
           go_wp2_with fail
           go_ret
           exact ⟨zaa E.out.symm,HB1.out.trans (hb'.out.mono HB1.out.size)⟩
         · have hg:Op.bytesLess y.id.toList i.id.toList = true:=by rw [zqd] at hu;exact hu
           have HU2:=y22h (show ∀ j a b,j + 1 < q + 1 + 1 → l[j]? = some a → l[j + 1]? = some b → upB a b = true from fun j a b hj ha hb=>by
             by_cases e:j = q
             · subst e;rw [HY.out] at ha;rw [HI.out] at hb;cases ha;cases hb;exact hu
             · exact HU.out j a b (by omega) ha hb)
           clear hu
           go_wp2_with fail
           refine wp_region_quiet_below (by kernel_rfl) (by kernel_rfl) ?_
           repeat (first | go_big_quiet_step ((with_reducible exact (m1 _ _).out)) | quiet_step ((with_reducible exact (m1 _ _).out)))
           refine wpQuiet_nil ?_
           intro w7 hw'
           have hb':=y22h (zae hw')
           clear hw'
           clear m1 r0 r1 r2 r3 r4 r5 r6 r7 s0
           go_wp2_with fail
           go_roundw
           case rel=>exact ⟨q + 1 + 1,by omega,by go_num,HS2.out,HU2.out,y22h (HB1.out.trans (hb'.out.mono HB1.out.size))⟩
           case measure=>simp [intOf];omega
   · have E:=y22h (zrj (l:=l) (fun j a hj ha=>HS.out j a (by rw [HN.out] at hj;omega) ha) (fun j a b hj ha hb=>HU.out j a b (by rw [HN.out] at hj;omega) ha hb))
     go_wp2_with fail
     go_ret
     exact ⟨zaa E.out.symm,HB.out⟩
theorem zd2 (l:List Itm) (id:ByteArray) (v:Value) (w:World) (hR:Row 8 ic w l v) (hr:zak l) (hl:l.length ≤ 1000) (_:id.size ≤ maxLen) :
   Calls Tryz.prog 75 #[v,.string id] w fun e w'=>e = .returned (.tuple #[iV (getI l id).1,.bool (getI l id).2]) ∧ Below w.heap.size w w':=by
 have LR:=y22h (hR.alloc (.cells (iA Itm.zero) 69))
 have S:=y22h (zf6 l id v _ LR.out hr (by omega))
 have OT:=y22h (Own.new w (iA Itm.zero) 69)
 have BEL:=y22h ((Below.refl w.heap.size w).alloc (Nat.le_refl _) (.cells (iA Itm.zero) 69))
 clear hR
 cases hh:hitI l id
 · have e:=zqy hr hh
   have et:toI l id = posI l id:=by unfold toI;rw [hh];rfl
   rw [e]
   rw [et] at S
   clear hr hh
   obtain ⟨oa,cap,rfl⟩:=LR.out.val
   have hk:=zfl l id
   clear e et
   generalize posI l id = k at *
   go_enter Tryz.func75,Tryz.ntmps75
   go_wp2_with (go_at_call 121;refine S.out.mono ?_;rintro e w' ⟨rfl,hb⟩;replace OT:=y22h (OT.out.later hb);replace BEL:=y22h (BEL.out.trans (hb.mono BEL.out.size));have l1:=OT.out.cell;have f1:=OT.out.free;have z1:=OT.out.lt)
   have key:=And.intro (zcf OT.out (.string ⟨#[]⟩) (.int .i64 0) (.int .i64 0) (.int .i64 0) (.string ⟨#[]⟩) (.int .i64 0) (.complex .f64 0 0) (.bool false)) (zbq (b:=w.heap.size) BEL.out (Nat.le_refl _) (.string ⟨#[]⟩) (.int .i64 0) (.int .i64 0) (.int .i64 0) (.string ⟨#[]⟩) (.int .i64 0) (.complex .f64 0 0) (.bool false))
   unfold st8 at key
   revert key
   generalize World.setCell (World.setCell (World.setCell (World.setCell (World.setCell (World.setCell (World.setCell (World.setCell _ _ _) _ _) _ _) _ _) _ _) _ _) _ _) _ _ = WW
   rintro ⟨of,bf⟩
   exact zaj (by rfl) (by rfl) (by rfl) (l:=ic Itm.zero) of.range Tryz.underlying69 (by rfl) (by kernel_rfl) rfl ⟨rfl,bf⟩
 · obtain ⟨i,hi,e⟩:=zs4 hr hh
   have et:toI l id = posI l id + 1:=by unfold toI;rw [hh];rfl
   rw [e]
   rw [et] at S
   clear hr hh
   obtain ⟨oa,cap,b,o,rfl,hL⟩:=LR.out
   have hk:=zbj hi
   clear e et
   generalize posI l id = k at *
   obtain ⟨rfl,hb0⟩:=hL.at0 (by omega)
   have cs:=fun j u hu=>hL.cell k i hi j u hu
   have k0:(0:Int) ≤ (k:Int):=by omega
   have k1:(k:Int) < (l.length:Int):=by omega
   have CS:=y22h cs
   have hne:decide ((k:Int) = (k:Int) + 1) = false:=decide_eq_false (by omega)
   have hne2:((k:Int) == (k:Int) + 1) = false:=by rw [beq_eq_false_iff_ne];omega
   clear cs hL
   go_enter Tryz.func75,Tryz.ntmps75
   go_wp2_with (go_at_call 121;refine S.out.mono ?_;rintro e w' ⟨rfl,hb⟩;obtain ⟨c0,c1,c2,c3,c4,c5,c6,c7⟩:=zaw (w:=w') (fun j u hu=>(hb.cell (p:=⟨b,o + k * 8 + j,none⟩) hb0).trans (CS.out j u hu));have zb:=Nat.lt_of_lt_of_le hb0 hb.size;replace OT:=y22h (OT.out.later hb);replace BEL:=y22h (BEL.out.trans (hb.mono BEL.out.size));have l1:=OT.out.cell;have f1:=OT.out.free;have z1:=OT.out.lt)
   have key:=And.intro (zcf OT.out (.string i.id) (.int .i64 i.r) (.int .i64 i.c) (.int .i64 i.st) (.string i.kd) (.int .i64 i.num) (.complex .f64 i.x i.y) (.bool i.d)) (zbq (b:=w.heap.size) BEL.out (Nat.le_refl _) (.string i.id) (.int .i64 i.r) (.int .i64 i.c) (.int .i64 i.st) (.string i.kd) (.int .i64 i.num) (.complex .f64 i.x i.y) (.bool i.d))
   unfold st8 at key
   revert key
   generalize World.setCell (World.setCell (World.setCell (World.setCell (World.setCell (World.setCell (World.setCell (World.setCell _ _ _) _ _) _ _) _ _) _ _) _ _) _ _) _ _ = WW
   rintro ⟨of,bf⟩
   exact zaj (by rfl) (by rfl) (by rfl) (l:=ic i) of.range Tryz.underlying69 (by rfl) (by kernel_rfl) rfl ⟨rfl,bf⟩
theorem zux (i:It) (l:List Pr):Pr.hasAll i l = !(l.any fun k=>k.hasB i == false):=by
 induction l with
 | nil=>simp [Pr.hasAll]
 | cons a l ih=>simp only [Pr.hasAll,ih,List.any_cons,Bool.not_or];cases Pr.hasB i a <;> simp
theorem zuy (i:It) (l:List Pr):Pr.hasAny i l = l.any fun k=>k.hasB i == true:=by
 induction l with
 | nil=>simp [Pr.hasAny]
 | cons a l ih=>simp only [Pr.hasAny,ih,List.any_cons];cases Pr.hasB i a <;> simp
theorem zq3 (i:It) (r c st:Int) (d:Bool) (hid:i.id.size ≤ maxLen) (p:Pr):zik i r c st d p:=by
 induction p using Pr.ind with
 | h op t n x y kids ih =>
   intro v w hL
   obtain ⟨oa,cap,b,o,V,rfl,ht,hl,hc,hn,hcell,hrec⟩:=zbh hL
   have LK0:=zre hL
   simp only [Pr.kids_node,Pr.text_node,Pr.op_node,Pr.n_node,Pr.x_node,Pr.y_node] at *
   unfold maxLen at hc
   have SM:=fun b w' h=>y22h (zp7 i r c st d b kids ih oa cap w' h)
   have LL:=fun a a'=>y22h ((LK0.atAlloc a).atAlloc a')
   have HC:=y22h hcell
   have HR:=y22h hrec
   have HN:=y22h hn
   have HI:=y22h ih
   have HT:=y22h ht
   have HID:=y22h hid
   clear hL LK0 hcell hrec hn ih ht hid
   have HAll:=y22h (zux i kids)
   have HAny:=y22h (zuy i kids)
   generalize hlen:kids.length = len at *
   have HLEN:=y22h hlen
   clear hlen
   generalize hres:Pr.hasB i (.node op t n x y kids) = res
   have HRES:=y22h hres
   clear hres
   have BE:=fun (a a':Obj)=>y22h (((Below.refl w.heap.size w).alloc (Nat.le_refl _) a).alloc (by simp) a')
   have hop:op = 1 ∨ op = 3 ∨ op = 4 ∨ op = 5 ∨ op = 6 ∨ op = 7 ∨ op = 8 ∨ op = 9 ∨ op = 10 ∨ (op ≠ 1 ∧ op ≠ 3 ∧ op ≠ 4 ∧ op ≠ 5 ∧ op ≠ 6 ∧ op ≠ 7 ∧ op ≠ 8 ∧ op ≠ 9 ∧ op ≠ 10):=by omega
   rcases hop with rfl | rfl | rfl | rfl | rfl | rfl | rfl | rfl | rfl | ⟨n1,n3,n4,n5,n6,n7,n8,n9,n10⟩
   · have E:=y22h (show res = true by rw [← HRES.out];simp [Pr.hasB])
     go_enter Tryz.func30,Tryz.ntmps30
     go_wp2_with fail
     go_ret
     exact ⟨zaa E.out.symm,(BE _ _).out⟩
   · have E:=y22h (show res = decide (i.kd.toList = t.toList) by rw [← HRES.out];simp [Pr.hasB])
     go_enter Tryz.func30,Tryz.ntmps30
     go_wp2_with fail
     all_goals
       go_ret
       exact ⟨zaa (by rw [E.out];first | done | (rw [Bool.eq_iff_iff];simp;done) | (simp_all;done)),(BE _ _).out⟩
   · have E:=y22h (show res = begB i.id t by rw [← HRES.out];simp [Pr.hasB])
     have C:=fun w=>y22h (zmy i.id t w HID.out HT.out)
     go_enter Tryz.func30,Tryz.ntmps30
     go_wp2_with (go_at_call 64;refine (C _).out.mono ?_;rintro e w' ⟨rfl,rfl⟩)
     go_ret
     exact ⟨zaa E.out.symm,(BE _ _).out⟩
   · have E:=y22h (show res = decide (i.num < n) by rw [← HRES.out];simp [Pr.hasB])
     go_enter Tryz.func30,Tryz.ntmps30
     go_wp2_with fail
     all_goals
       go_ret
       exact ⟨zaa (by rw [E.out];first | done | (rw [Bool.eq_iff_iff];simp;done) | (simp_all;done)),(BE _ _).out⟩
   · have E:=y22h (show res = decide (n ≤ i.num) by rw [← HRES.out];simp [Pr.hasB])
     go_enter Tryz.func30,Tryz.ntmps30
     go_wp2_with fail
     all_goals
       go_ret
       exact ⟨zaa (by rw [E.out];first | done | (rw [Bool.eq_iff_iff];simp;done) | (simp_all;done)),(BE _ _).out⟩
   · have E:=y22h (show res = zje i.ax i.ay x y n by rw [← HRES.out];simp [Pr.hasB])
     have C:=fun w=>y22h (zpx i.ax i.ay x y n w)
     generalize zje i.ax i.ay x y n = fv at *
     go_enter Tryz.func30,Tryz.ntmps30
     go_wp2_with (go_at_call 65;refine (C _).out.mono ?_;rintro e w' ⟨rfl,rfl⟩)
     go_ret
     exact ⟨zaa E.out.symm,(BE _ _).out⟩
   · have E:=y22h (show res = !(kids.any fun k=>k.hasB i == false) by rw [← HRES.out,← HAll.out];simp [Pr.hasB])
     go_enter Tryz.func30,Tryz.ntmps30
     go_wp2_with (go_at_call 66;refine (SM _ _ (LL _ _).out).out.mono ?_;rintro e w' ⟨rfl,hb⟩)
     go_ret
     exact ⟨zaa (by rw [E.out];simp),zal (zal hb)⟩
   · have E:=y22h (show res = (kids.any fun k=>k.hasB i == true) by rw [← HRES.out,← HAny.out];simp [Pr.hasB])
     go_enter Tryz.func30,Tryz.ntmps30
     go_wp2_with (go_at_call 66;refine (SM _ _ (LL _ _).out).out.mono ?_;rintro e w' ⟨rfl,hb⟩)
     go_ret
     exact ⟨zaa (by rw [E.out];simp),zal (zal hb)⟩
   · by_cases h0:len = 0
     · subst h0
       have E:=y22h (show res = false by rw [← HRES.out,List.length_eq_zero_iff.1 HLEN.out];simp [Pr.hasB,Pr.hasNot])
       have G1:=y22h ((Has.new w #[.int .i64 10,.string t,.int .i64 n,.complex .f64 x y,.slice oa 0 cap] 40).alloc (.cells (itC i r c st d) 69))
       have G2:=y22h ((Own.newAt (w.alloc (.cells #[.int .i64 10,.string t,.int .i64 n,.complex .f64 x y,.slice oa 0 cap] 40)) (itC i r c st d) 69 (b:=w.heap.size + 1) (by simp)).has)
       have LA:=fun dd os o=>G1.out.regrown dd os o
       have LB:=fun dd os o=>G2.out.regrown dd os o
       have l1:=G1.out.cell
       go_enter Tryz.func30,Tryz.ntmps30
       go_wp2_with fail
       refine wp_region_quiet_below (by kernel_rfl) (by kernel_rfl) ?_
       repeat (first | go_big_quiet_step (fail) | quiet_step (fail))
       refine wpQuiet_nil ?_
       intro w7 hw'
       have hb':=y22h (zae hw')
       clear hw'
       go_wp2_with fail
       go_ret
       exact ⟨zaa E.out.symm,zal (zal hb'.out)⟩
     · obtain ⟨q,hq⟩:∃ q,kids[0]? = some q:=⟨_,List.getElem?_eq_getElem (by rw [HLEN.out];omega)⟩
       obtain ⟨rfl,hB⟩:=HN.out (by omega)
       obtain ⟨oq,cq,hV⟩:=zam (HR.out 0 q hq)
       have hbw:Below w.heap.size w ((w.alloc (.cells #[.int .i64 10,.string t,.int .i64 n,.complex .f64 x y,.slice (some ⟨b,o,none⟩) len cap] 40)).alloc (.cells (itC i r c st d) 69)):=(BE _ _).out
       obtain ⟨c0,c1,c2,c3,c4⟩:=zc1 (w:=((w.alloc (.cells #[.int .i64 10,.string t,.int .i64 n,.complex .f64 x y,.slice (some ⟨b,o,none⟩) len cap] 40)).alloc (.cells (itC i r c st d) 69))) (fun j u hu=>(hbw.cell (p:=⟨b,o + 0 * 5 + j,none⟩) hB).trans (HC.out 0 q hq j u hu))
       have L0:=(HR.out 0 q hq).later hbw (Nat.le_refl _)
       rw [hV] at c4 L0
       have CC:=fun dd os=>HI.out q (List.mem_of_getElem? hq) (.slice oq q.kids.length cq) (Sort.grow (redrawn ((w.alloc (.cells #[.int .i64 10,.string t,.int .i64 n,.complex .f64 x y,.slice (some ⟨b,o,none⟩) len cap] 40)).alloc (.cells (itC i r c st d) 69)) dd) os) (L0.later (below_regrown _ _ _) (Nat.le_refl _))
       have r0:=fun dd os=>cell_regrown c0 dd os
       have r1:=fun dd os=>cell_regrown c1 dd os
       have r2:=fun dd os=>cell_regrown c2 dd os
       have r3:=fun dd os=>cell_regrown c3 dd os
       have r4:=fun dd os=>cell_regrown c4 dd os
       have G1:=y22h ((Has.new w #[.int .i64 10,.string t,.int .i64 n,.complex .f64 x y,.slice (some ⟨b,o,none⟩) len cap] 40).alloc (.cells (itC i r c st d) 69))
       have G2:=y22h ((Own.newAt (w.alloc (.cells #[.int .i64 10,.string t,.int .i64 n,.complex .f64 x y,.slice (some ⟨b,o,none⟩) len cap] 40)) (itC i r c st d) 69 (b:=w.heap.size + 1) (by simp)).has)
       have LA:=fun dd os o=>G1.out.regrown dd os o
       have LB:=fun dd os o=>G2.out.regrown dd os o
       have l1:=G1.out.cell
       have E:=y22h (show res = !(Pr.hasB i q) by
         rw [← HRES.out]
         match kids,hq with
         | a :: l,hq=>simp at hq;subst hq;simp [Pr.hasB,Pr.hasNot])
       have m3:=fun dd os=>y22h (Calls.regrown_of (CC dd os))
       have hk0:(0:Int) < (len:Int):=by omega
       have hk1:0 < len:=by omega
       have hk2:decide (0 < len) = true:=by simp;omega
       have hk3:decide ((0:Int) < (len:Int)) = true:=by simp;omega
       generalize Pr.hasB i q = rq at *
       clear hV L0 hq CC hbw
       simp only [Nat.zero_mul,Nat.add_zero] at r0 r1 r2 r3 r4
       go_enter Tryz.func30,Tryz.ntmps30
       go_wp2_with fail
       refine wp_region_quiet_below (by kernel_rfl) (by kernel_rfl) ?_
       repeat (first | go_big_quiet_step ((with_reducible exact (m3 _ _).out)) | quiet_step (with_reducible exact (m3 _ _).out))
       refine wpQuiet_nil ?_
       intro w7 hw'
       have hb':=y22h (zae hw')
       clear hw' m3 r0 r1 r2 r3 r4 LA LB
       go_wp2_with fail
       go_ret
       exact ⟨zaa E.out.symm,zal (zal hb'.out)⟩
   · have E:=y22h (show res = false by rw [← HRES.out];simp [Pr.hasB,n1,n3,n4,n5,n6,n7,n8,n9,n10])
     go_enter Tryz.func30,Tryz.ntmps30
     go_wp2_with fail
     go_ret
     exact ⟨zaa E.out.symm,(BE _ _).out⟩
def zqh (k:Pr):Prop:=∀ (q:Pr) (v v':Value) (w:World),LP w k v → LP w q v' →
   Calls Tryz.prog 29 #[.agg #[.int .i64 k.op,.string k.text,.int .i64 k.n,.complex .f64 k.x k.y,v],.agg #[.int .i64 q.op,.string q.text,.int .i64 q.n,.complex .f64 q.x q.y,v']] w fun e w'=>e = .returned (.bool (Pr.same k q)) ∧ Below w.heap.size w w'
theorem zht (p:Pr):zqh p:=by
 induction p using Pr.ind with
 | h op t n x y l ih =>
   intro q v v' w hL hL'
   obtain ⟨op',t',n',x',y',m⟩:=q
   obtain ⟨oa,cap,b,o,V,rfl,_,hl,hc,hn,hcell,hrec⟩:=zbh hL
   obtain ⟨ob,cap',b',o',V',rfl,_,hl',hc',hn',hcell',hrec'⟩:=zbh hL'
   simp only [Pr.kids_node,Pr.text_node,Pr.op_node,Pr.n_node,Pr.x_node,Pr.y_node] at *
   unfold maxLen at hc hc'
   have HC:=y22h hcell
   have HR:=y22h hrec
   have HN:=y22h hn
   have HC':=y22h hcell'
   have HR':=y22h hrec'
   have HN':=y22h hn'
   have HH:=y22h ih
   clear hL hcell hrec hn hL' hcell' hrec' hn' ih
   have f2:Pr.same (.node op t n x y l) (.node op' t' n' x' y' m) = (decide (op = op') && (decide (t.toList = t'.toList) && (decide (n = n') && ((feq x x' && feq y y') && Pr.sames l m)))):=by simp [Pr.same]
   have HLen:=y22h (fun h=>Pr.sames_not_len (l:=l) (m:=m) h)
   rw [f2]
   clear f2
   generalize hs:Pr.sames l m = sm
   have HSM:=y22h hs
   clear hs
   rw [HSM.out] at HLen
   generalize hla:l.length = la at *
   generalize hlb:m.length = lb at *
   have HLA:=y22h hla
   have HLB:=y22h hlb
   clear hla hlb
   by_cases e1:¬ op = op'
   · go_enter Tryz.func29,Tryz.ntmps29
     go_wp2_with fail
     go_ret
     exact ⟨zaa (by simp [e1]),((Below.refl _ _).alloc (Nat.le_refl _) _).alloc (by simp) _⟩
   have e1:=Decidable.not_not.1 e1
   by_cases e2:¬ t.toList = t'.toList
   · subst e1
     go_enter Tryz.func29,Tryz.ntmps29
     go_wp2_with fail
     go_ret
     exact ⟨zaa (by simp [e2]),((Below.refl _ _).alloc (Nat.le_refl _) _).alloc (by simp) _⟩
   have e2:=Decidable.not_not.1 e2
   by_cases e3:¬ n = n'
   · subst e1
     go_enter Tryz.func29,Tryz.ntmps29
     go_wp2_with fail
     go_ret
     exact ⟨zaa (by simp [e3]),((Below.refl _ _).alloc (Nat.le_refl _) _).alloc (by simp) _⟩
   have e3:=Decidable.not_not.1 e3
   subst e1
   subst e3
   by_cases g4:¬ (FloatKind.f64.format.order x x' = some .eq)
   · have e4:feq x x' = false:=by simp [feq,g4]
     rw [e4]
     go_enter Tryz.func29,Tryz.ntmps29
     go_wp2_with fail
     go_ret
     exact ⟨zaa (by simp),((Below.refl _ _).alloc (Nat.le_refl _) _).alloc (by simp) _⟩
   have g4:=Decidable.not_not.1 g4
   have e4:feq x x' = true:=by simp [feq,g4]
   rw [e4]
   by_cases g5:¬ (FloatKind.f64.format.order y y' = some .eq)
   · have e5:feq y y' = false:=by simp [feq,g5]
     rw [e5]
     go_enter Tryz.func29,Tryz.ntmps29
     go_wp2_with fail
     go_ret
     exact ⟨zaa (by simp),((Below.refl _ _).alloc (Nat.le_refl _) _).alloc (by simp) _⟩
   have g5:=Decidable.not_not.1 g5
   have e5:feq y y' = true:=by simp [feq,g5]
   rw [e5]
   by_cases e6:¬ la = lb
   · have hz:=HLen.out e6
     subst hz
     go_enter Tryz.func29,Tryz.ntmps29
     go_wp2_with fail
     go_ret
     exact ⟨zaa (by simp),((Below.refl _ _).alloc (Nat.le_refl _) _).alloc (by simp) _⟩
   have e6:=Decidable.not_not.1 e6
   subst e6
   rw [decide_eq_true rfl,decide_eq_true e2,decide_eq_true rfl,Bool.true_and,Bool.true_and,Bool.true_and,Bool.true_and,Bool.true_and]
   go_enter Tryz.func29,Tryz.ntmps29
   go_wp2_with fail
   go_loopw [5] (fun i wr=>zxi l m la ((w.alloc (.cells #[.int .i64 op,.string t,.int .i64 n,.complex .f64 x y,.slice oa la cap] 40)).alloc (.cells #[.int .i64 op,.string t',.int .i64 n,.complex .f64 x' y',.slice ob la cap'] 40)) i wr) (fun i _=>la - (intOf i).toNat)
   case atStart=>exact ⟨0,Nat.zero_le _,rfl,by simp [Hid,Pr.sames],Below.refl _ _⟩
   case round =>
     obtain ⟨k,hk,rfl,HS,hb⟩:=hrel
     have G1:=y22h (((Has.new w #[.int .i64 op,.string t,.int .i64 n,.complex .f64 x y,.slice oa la cap] 40).alloc (.cells #[.int .i64 op,.string t',.int .i64 n,.complex .f64 x' y',.slice ob la cap'] 40)).below hb (by simp;omega))
     have G2:=y22h ((Own.newAt (w.alloc (.cells #[.int .i64 op,.string t,.int .i64 n,.complex .f64 x y,.slice oa la cap] 40)) #[.int .i64 op,.string t',.int .i64 n,.complex .f64 x' y',.slice ob la cap'] 40 (b:=w.heap.size + 1) (by simp)).has.below hb (by simp))
     by_cases hlt:k < la
     · obtain ⟨p,hp⟩:∃ p,l[k]? = some p:=⟨_,List.getElem?_eq_getElem (by rw [HLA.out];exact hlt)⟩
       obtain ⟨q,hq⟩:∃ q,m[k]? = some q:=⟨_,List.getElem?_eq_getElem (by rw [HLB.out];exact hlt)⟩
       obtain ⟨rfl,hB⟩:=HN.out (by omega)
       obtain ⟨rfl,hB'⟩:=HN'.out (by omega)
       obtain ⟨oq,cq,hV⟩:=zam (HR.out k p hp)
       obtain ⟨oq',cq',hV'⟩:=zam (HR'.out k q hq)
       have hbw:Below w.heap.size w wr:=zal (zal hb)
       obtain ⟨c0,c1,c2,c3,c4⟩:=zc1 (w:=wr) (fun j u hu=>(hbw.cell (p:=⟨b,o + k * 5 + j,none⟩) hB).trans (HC.out k p hp j u hu))
       obtain ⟨d0,d1,d2,d3,d4⟩:=zc1 (w:=wr) (fun j u hu=>(hbw.cell (p:=⟨b',o' + k * 5 + j,none⟩) hB').trans (HC'.out k q hq j u hu))
       have L0:=(HR.out k p hp).later hbw (Nat.le_refl _)
       have M0:=(HR'.out k q hq).later hbw (Nat.le_refl _)
       rw [hV] at c4 L0
       rw [hV'] at d4 M0
       have CC:=fun dd os=>HH.out p (List.mem_of_getElem? hp) q (.slice oq p.kids.length cq) (.slice oq' q.kids.length cq') (Sort.grow (redrawn wr dd) os) (L0.later (below_regrown _ _ _) (Nat.le_refl _)) (M0.later (below_regrown _ _ _) (Nat.le_refl _))
       have HB:=y22h hb
       have HS0:=HS.out
       have r0:=fun dd os=>cell_regrown c0 dd os
       have r1:=fun dd os=>cell_regrown c1 dd os
       have r2:=fun dd os=>cell_regrown c2 dd os
       have r3:=fun dd os=>cell_regrown c3 dd os
       have r4:=fun dd os=>cell_regrown c4 dd os
       have s0:=fun dd os=>cell_regrown d0 dd os
       have s1:=fun dd os=>cell_regrown d1 dd os
       have s2:=fun dd os=>cell_regrown d2 dd os
       have s3:=fun dd os=>cell_regrown d3 dd os
       have s4:=fun dd os=>cell_regrown d4 dd os
       have LA:=fun dd os o=>G1.out.regrown dd os o
       have LB:=fun dd os o=>G2.out.regrown dd os o
       have l1:=G1.out.cell
       have l2:=G2.out.cell
       cases hs:Pr.same p q
       · have HF:=y22h (Pr.sames_at hp hq hs)
         rw [hs] at CC
         have m3:=fun dd os=>y22h (Calls.regrown_of (CC dd os))
         clear hb hV hV' L0 M0 HS0 hs hp hq CC hbw
         go_wp2_with fail
         refine wp_region_quiet_below (by kernel_rfl) (by kernel_rfl) ?_
         repeat (first | go_big_quiet_step ((with_reducible exact (m3 _ _).out)) | quiet_step (with_reducible exact (m3 _ _).out))
         refine wpQuiet_nil ?_
         intro w7 hw'
         have hb':=y22h (zae hw')
         clear hw' m3 r0 r1 r2 r3 r4 s0 s1 s2 s3 s4 LA LB
         go_wp2_with fail
         go_ret
         have HF:=HF.out
         rw [HSM.out] at HF
         exact ⟨zaa HF.symm,zal (zal (HB.out.trans (hb'.out.mono HB.out.size)))⟩
       · have HF:=y22h (Pr.sames_take hp hq HS0 hs)
         rw [hs] at CC
         have m3:=fun dd os=>y22h (Calls.regrown_of (CC dd os))
         clear hb hV hV' L0 M0 HS0 hs hp hq CC hbw
         go_wp2_with fail
         refine wp_region_quiet_below (by kernel_rfl) (by kernel_rfl) ?_
         repeat (first | go_big_quiet_step ((with_reducible exact (m3 _ _).out)) | quiet_step (with_reducible exact (m3 _ _).out))
         refine wpQuiet_nil ?_
         intro w7 hw'
         have hb':=y22h (zae hw')
         clear hw' m3 r0 r1 r2 r3 r4 s0 s1 s2 s3 s4 LA LB
         go_wp2_with fail
         go_roundw
         case rel=>exact ⟨k + 1,by omega,by go_num,HF.out,HB.out.trans (hb'.out.mono HB.out.size)⟩
         case measure=>simp [intOf];omega
     · have HB:=y22h hb
       clear hb
       have e:k = la:=by omega
       have h7:=HS.out
       rw [Pr.take_all l (by rw [HLA.out];omega),Pr.take_all m (by rw [HLB.out];omega),HSM.out] at h7
       subst h7
       clear e
       have l1:=G1.out.cell
       have l2:=G2.out.cell
       have z1:=G1.out.lt
       have z2:=G2.out.lt
       go_wp2_with fail
       go_ret
       exact ⟨rfl,zal (zal HB.out)⟩
theorem zum (l:List Itm) (id:ByteArray):toI l id ≤ l.length:=by
 have hk:=zfl l id
 unfold toI
 cases hh:hitI l id with
 | false=>simpa using hk
 | true =>
   unfold hitI at hh
   cases e:l[posI l id]? with
   | none=>rw [e] at hh;cases hh
   | some i=>have:=zbj e;simp only [if_true];omega
theorem zeg (b o n:Nat):(⟨b,o,none⟩:Addr).add n = ⟨b,o + n,none⟩:=by
 unfold Addr.add;split <;> simp_all
theorem Row.slice {w:World} {l:List Itm} {oa:Option Addr} {n cap:Nat} (h:Row 8 ic w l (.slice oa n cap)) (t:Nat) (ht:t ≤ l.length):Row 8 ic w (l.drop t) (.slice (Option.map (fun x=>x.add (t * 8)) oa) (n - t) (cap - t)):=by
 obtain ⟨oa',cap',b,o,e,h⟩:=h
 cases e
 have hc:=h.len
 have hm:=h.max
 refine ⟨_,cap - t,b,o + t * 8,by rw [List.length_drop],by rw [List.length_drop];omega,by omega,fun h0=>?_,fun k i hk j u hu=>?_,fun i hi=>h.ok i (List.mem_of_mem_drop hi)⟩
 · rw [List.length_drop] at h0
   obtain ⟨rfl,hb⟩:=h.at0 (by omega)
   exact ⟨by simp only [Option.map_some,zeg],hb⟩
 · rw [List.getElem?_drop] at hk
   have:=h.cell (t + k) i hk j u hu
   rw [show o + t * 8 + k * 8 + j = o + (t + k) * 8 + j by omega]
   exact this
theorem Row.none {w:World} {l:List Itm} {oa:Option Addr} {n cap:Nat} (h:Row 8 ic w l (.slice oa n cap)):Row 8 ic w (l.drop cap) (.slice oa 0 0):=by
 obtain ⟨oa',cap',b,o,e,h⟩:=h
 cases e
 have hc:=h.len
 have e:l.drop cap = []:=List.drop_eq_nil_of_le hc
 rw [e]
 exact ⟨_,0,b,o,rfl,Nat.le_refl _,by decide,fun h0=>by simp at h0,fun k i hk=>by simp at hk,fun i hi=>by simp at hi⟩
theorem Row.upto {w:World} {l:List Itm} {oa:Option Addr} {n cap:Nat} (h:Row 8 ic w l (.slice oa n cap)) (k:Nat) (hk:k ≤ l.length):Row 8 ic w (l.take k) (.slice oa k cap):=by
 have e:=h.take k
 rw [List.length_take,show min k l.length = k by omega] at e
 exact e
theorem zk3 (a b:List Itm) (va vb:Value) (bs:Nat) (w:World) (hlt:bs < w.heap.size) (c0:w.cell? ⟨bs,0,none⟩ = some va) (c1:w.cell? ⟨bs,1,none⟩ = some vb) (ha:Row 8 ic w a va) (hb:Row 8 ic w b vb) (la:a.length ≤ 2000) (lb:b.length ≤ 2000) :
   Calls Tryz.prog 154 #[.slice (some ⟨bs,0,none⟩) 2 2] w fun e w'=>∃ v,e = .returned v ∧ OwnI w' w.heap.size (a ++ b) v ∧ Below w.heap.size w w':=by
 have h:=zgl 2 (by omega) (fun k=>if k = 0 then a else b) (fun k=>if k = 0 then va else vb) bs w ⟨hlt,fun k hk=>?_,fun k hk=>?_,fun k hk=>?_⟩
 · simpa [catI] using h
 · obtain rfl | rfl:k = 0 ∨ k = 1:=by omega
   · simpa using c0
   · simpa using c1
 · obtain rfl | rfl:k = 0 ∨ k = 1:=by omega
   · simpa using ha
   · simpa using hb
 · obtain rfl | rfl:k = 0 ∨ k = 1:=by omega
   · simpa using la
   · simpa using lb
theorem zk4 (a b c:List Itm) (va vb vc:Value) (bs:Nat) (w:World) (hlt:bs < w.heap.size) (c0:w.cell? ⟨bs,0,none⟩ = some va) (c1:w.cell? ⟨bs,1,none⟩ = some vb) (c2:w.cell? ⟨bs,2,none⟩ = some vc) (ha:Row 8 ic w a va) (hb:Row 8 ic w b vb) (hc:Row 8 ic w c vc) (la:a.length ≤ 2000) (lb:b.length ≤ 2000) (lc:c.length ≤ 2000) :
   Calls Tryz.prog 154 #[.slice (some ⟨bs,0,none⟩) 3 3] w fun e w'=>∃ v,e = .returned v ∧ OwnI w' w.heap.size (a ++ (b ++ c)) v ∧ Below w.heap.size w w':=by
 have h:=zgl 3 (by omega) (fun k=>if k = 0 then a else if k = 1 then b else c) (fun k=>if k = 0 then va else if k = 1 then vb else vc) bs w ⟨hlt,fun k hk=>?_,fun k hk=>?_,fun k hk=>?_⟩
 · simpa [catI] using h
 · obtain rfl | rfl | rfl:k = 0 ∨ k = 1 ∨ k = 2:=by omega
   · simpa using c0
   · simpa using c1
   · simpa using c2
 · obtain rfl | rfl | rfl:k = 0 ∨ k = 1 ∨ k = 2:=by omega
   · simpa using ha
   · simpa using hb
   · simpa using hc
 · obtain rfl | rfl | rfl:k = 0 ∨ k = 1 ∨ k = 2:=by omega
   · simpa using la
   · simpa using lb
   · simpa using lc
theorem zj1 {l m:List Itm} (h:∀ i ∈ l,i.id.size ≤ maxLen ∧ i.kd.size ≤ maxLen) (hs:∀ i ∈ m,i ∈ l):∀ i ∈ m,i.id.size ≤ maxLen ∧ i.kd.size ≤ maxLen:=fun i hi=>h i (hs i hi)
theorem zex (l:List Itm) (id:ByteArray) (v:Value) (w:World) (hR:Row 8 ic w l v) (hr:zak l) (hl:l.length ≤ 1000) (hid:id.size ≤ maxLen) :
   Calls Tryz.prog 118 #[v,.string id] w fun e w'=>∃ v',e = .returned v' ∧ OwnI w' w.heap.size (l.filter (neB id)) v' ∧ Below w.heap.size w w':=by
 have S:=y22h (zf6 l id v w hR hr (by omega))
 have HO:=y22h (zj1 (m:=l.filter (neB id)) hR.oks fun i hi=>(List.mem_filter.1 hi).1)
 have E:=y22h (zpb (id:=id) hr)
 have LR:=y22h hR
 obtain ⟨oa,cap,rfl⟩:=hR.val
 have kx:=hR.cap
 have hk:=zfl l id
 have ht:=zum l id
 clear hR hr
 generalize toI l id = t at *
 generalize posI l id = k at *
 have q1:(0:Int) ≤ (k:Int):=by omega
 have q2:(k:Int) ≤ (cap:Int):=by omega
 have q3:(0:Int) ≤ (t:Int):=by omega
 have q4:(t:Int) ≤ (l.length:Int):=by omega
 go_enter Tryz.func118,Tryz.ntmps118
 go_upto_region 2 with (go_at_call 121;refine S.out.mono ?_;rintro e w1 ⟨rfl,hb⟩;replace LR:=y22h (LR.out.later hb))
 have W2:∀ x y:Value,Hid (Row 8 ic w1 (l.take k) x → Row 8 ic w1 (l.drop t) y → Calls Tryz.prog 154 #[.slice (some ⟨w1.heap.size,0,none⟩) 2 2] (w1.alloc (.cells #[x,y] 41)).drew fun e w'=>∃ v,e = .returned v ∧ OwnI w' (w1.heap.size + 1) (l.filter (neB id)) v ∧ Below w1.heap.size w1 w'):=fun x y=>y22h (fun hx hy=>by
   have h:=zk3 (l.take k) (l.drop t) x y w1.heap.size (w1.alloc (.cells #[x,y] 41)).drew (by simp) ((Has.new w1 #[x,y] 41).cell 0) ((Has.new w1 #[x,y] 41).cell 1) (hx.alloc _).drew (hy.alloc _).drew (by rw [List.length_take];omega) (by rw [List.length_drop];omega)
   rw [E.out] at h
   refine h.mono ?_
   rintro e w' ⟨v,he,ho,hb⟩
   exact ⟨v,he,by simpa using ho,(((Below.refl _ _).alloc (Nat.le_refl _) _).drew).trans (hb.mono (by simp))⟩)
 refine za1 6 (by kernel_rfl) (by kernel_rfl) ?_
 simp only [List.take_succ_cons,List.take_zero,List.drop_succ_cons,List.drop_zero]
 by_cases hq:cap = t
 · subst hq
   repeat (first | still_step)
   refine wpStill_nil ?_
   go_wp2_with fail
   refine ((W2 _ _).out (LR.out.upto k hk) (LR.out.none)).mono ?_
   rintro e w2 ⟨v,rfl,ho,hb2⟩
   go_wp2_with fail
   go_ret
   exact ⟨_,rfl,ho.mono (by have:=hb.size;omega),hb.trans (hb2.mono hb.size)⟩
 · repeat (first | still_step)
   refine wpStill_nil ?_
   go_wp2_with fail
   refine ((W2 _ _).out (LR.out.upto k hk) (LR.out.slice t ht)).mono ?_
   rintro e w2 ⟨v,rfl,ho,hb2⟩
   go_wp2_with fail
   go_ret
   exact ⟨_,rfl,ho.mono (by have:=hb.size;omega),hb.trans (hb2.mono hb.size)⟩
theorem zfj (l:List Itm) (x:Itm) (v:Value) (w:World) (hR:Row 8 ic w l v) (hr:zak l) (hl:l.length ≤ 1000) (hx:x.id.size ≤ maxLen ∧ x.kd.size ≤ maxLen) :
   Calls Tryz.prog 119 #[v,iV x] w fun e w'=>∃ v',e = .returned v' ∧ OwnI w' w.heap.size (putI l x) v' ∧ Below w.heap.size w w':=by
 have LR:=y22h (hR.alloc (.cells (iA x) 69))
 have S:=y22h (zf6 l x.id v _ LR.out hr (by omega))
 have OX:=y22h (Has.new w (iA x) 69)
 have BEL:=y22h ((Below.refl w.heap.size w).alloc (Nat.le_refl _) (.cells (iA x) 69))
 have E:=y22h (zrv (x:=x) hr)
 have HO:=y22h (show ∀ i ∈ putI l x,i.id.size ≤ maxLen ∧ i.kd.size ≤ maxLen from fun i hi=>by
   rcases mem_put.1 hi with e | ⟨e,_⟩
   · rw [e];exact hx
   · exact hR.oks i e)
 obtain ⟨oa,cap,rfl⟩:=hR.val
 have kx:=hR.cap
 have hk:=zfl l x.id
 have ht:=zum l x.id
 have HX:=y22h hx
 clear hR hr hx
 generalize toI l x.id = t at *
 generalize posI l x.id = k at *
 have q1:(0:Int) ≤ (k:Int):=by omega
 have q2:(k:Int) ≤ (cap:Int):=by omega
 have q3:(0:Int) ≤ (t:Int):=by omega
 have q4:(t:Int) ≤ (l.length:Int):=by omega
 go_enter Tryz.func119,Tryz.ntmps119
 have l0:=OX.out.cell
 have z0:=OX.out.lt
 go_upto_region 2 with (go_at_call 121;clear l0 z0;refine S.out.mono ?_;rintro e w1 ⟨rfl,hb⟩;replace LR:=y22h (LR.out.later hb);replace OX:=y22h (OX.out.below hb OX.out.lt);replace BEL:=y22h (BEL.out.trans (hb.mono BEL.out.size)))
 have l1:=OX.out.cell
 have z1:=OX.out.lt
 have zb:=BEL.out.size
 have W3:∀ (B:Nat) (va vc:Value),Hid (B = w1.heap.size + 1 → Row 8 ic w1 (l.take k) va → Row 8 ic w1 (l.drop t) vc → Calls Tryz.prog 154 #[.slice (some ⟨B,0,none⟩) 3 3] ((w1.alloc (.cells (iA x) 69)).alloc (.cells #[va,.slice (some ⟨w1.heap.size,0,none⟩) 1 1,vc] 41)).drew fun e w'=>∃ v,e = .returned v ∧ OwnI w' (w1.heap.size + 2) (putI l x) v ∧ Below w1.heap.size w1 w'):=fun B va vc=>y22h (fun hB ha hc=>by
   subst hB
   have o1:=(zcc w1 x 69 HX.out)
   have hs:=Has.new (w1.alloc (.cells (iA x) 69)) #[va,.slice (some ⟨w1.heap.size,0,none⟩) 1 1,vc] 41
   have h:=zk4 (l.take k) [x] (l.drop t) va (.slice (some ⟨w1.heap.size,0,none⟩) 1 1) vc (w1.alloc (.cells (iA x) 69)).heap.size ((w1.alloc (.cells (iA x) 69)).alloc (.cells #[va,.slice (some ⟨w1.heap.size,0,none⟩) 1 1,vc] 41)).drew hs.drew.lt (hs.drew.cell 0) (hs.drew.cell 1) (hs.drew.cell 2) ((ha.alloc _).alloc _).drew (o1.alloc _).drew ((hc.alloc _).alloc _).drew (by rw [List.length_take];omega) (by simp) (by rw [List.length_drop];omega)
   rw [E.out,show (w1.alloc (.cells (iA x) 69)).heap.size = w1.heap.size + 1 by simp] at h
   refine h.mono ?_
   rintro e w' ⟨v,he,ho,hb⟩
   exact ⟨v,he,by simpa using ho,((((Below.refl _ _).alloc (Nat.le_refl _) _).alloc (by simp) _).drew).trans (hb.mono (by simp;omega))⟩)
 by_cases hq:cap = t
 · subst hq
   go_region_held3 (fun w'=>∀ o,w'.cell? ⟨w.heap.size,o,none⟩ = (iA x)[o]?) (first | with_reducible exact OX2.out.cell | with_reducible exact OX.out.cell | with_reducible exact OX.out.drew.cell | with_reducible exact ((OX.out.alloc _).drew).cell | with_reducible exact ((OX.out.alloc _).drew.alloc _).cell | with_reducible exact (((OX.out.alloc _).alloc _).drew).cell) (first
     | (go_simp;go_at_call 154;with_reducible refine ((W3 _ _ _).out rfl (LR.out.upto k hk) LR.out.none).mono ?_;rintro e w2 ⟨v,rfl,ho,hb2⟩;have OX2:=y22h (OX.out.below hb2 OX.out.lt))
     | fail)
   go_wp2_with fail
   go_ret
   exact ⟨_,rfl,ho.mono (by have:=BEL.out.size;omega),BEL.out.trans (hb2.mono BEL.out.size)⟩
 · go_region_held3 (fun w'=>∀ o,w'.cell? ⟨w.heap.size,o,none⟩ = (iA x)[o]?) (first | with_reducible exact OX2.out.cell | with_reducible exact OX.out.cell | with_reducible exact OX.out.drew.cell | with_reducible exact ((OX.out.alloc _).drew).cell | with_reducible exact ((OX.out.alloc _).drew.alloc _).cell | with_reducible exact (((OX.out.alloc _).alloc _).drew).cell) (first
     | (go_simp;go_at_call 154;with_reducible refine ((W3 _ _ _).out rfl (LR.out.upto k hk) (LR.out.slice t ht)).mono ?_;rintro e w2 ⟨v,rfl,ho,hb2⟩;have OX2:=y22h (OX.out.below hb2 OX.out.lt))
     | fail)
   go_wp2_with fail
   go_ret
   exact ⟨_,rfl,ho.mono (by have:=BEL.out.size;omega),BEL.out.trans (hb2.mono BEL.out.size)⟩
end Go.Proofs.YthnllikalobmeaaGreat
