/- Joined: LocT, LocM2, LocalB, LocRd. -/
import Derived.Test.YthnllikalobmeaaGreatJ35
import Derived.Test.YthnllikalobmeaaGreatJ33
import Derived.Test.YthnllikalobmeaaGreatJ34
import Derived.Test.YthnllikalobmeaaGreatJ36
import Derived.Test.YthnllikalobmeaaGreatJ29
import Derived.Test.YthnllikalobmeaaGreatJ27
import Derived.Test.YthnllikalobmeaaGreatJ30
import Derived.Test.YthnllikalobmeaaGreatJ32
import Derived.Test.YthnllikalobmeaaGreatJ16
import Derived.Test.YthnllikalobmeaaGreatJ28
import Derived.Lib.SliceRun
namespace Go.Proofs.YthnllikalobmeaaGreat
set_option linter.unusedVariables false
set_option linter.unusedSimpArgs false
set_option maxRecDepth 100000
set_option maxHeartbeats 8000000
open Go.RowKit
theorem y37h {p:Prop} (h:p):Hid p:=Lib.hid h
def errI (n:Int):Value:=errV n.toNat
def newE (r:Int) (f:Pr):Int:=if ze3 r f = true then 0 else 1
def newT (r:Int) (f:Pr):St:=if ze3 r f = true then newS r f else zlm
def zfk (s:St):Bool:=(decide (s.store.length + s.out.length ≤ 40) && (zbc s.store && zbc s.out)) && (!(s.store.any (zdj s)) && !(s.out.any (hasT s.f)))
def zfi (s:St) (k:Nat):Bool:=(decide (s.k.star k ≤ s.count) && !(s.k.l.any (zdy s k))) && (!(s.store.any (zbi s)) && !(s.out.any (zbi s)))
def zj0 (s:St):Bool:=((((inB s.r 1 8 && numS s) && Pr.mayB s.f) && zfk s) && mayK zax s.k) && zfi s (s.r - 1).toNat
theorem zpv (s:St):zj0 s = mayS s:=by
 rw [Bool.eq_iff_iff,mayS_iff]
 unfold zj0 zfk zfi numS
 simp only [Bool.and_eq_true,inB_iff,decide_eq_true_eq,Bool.not_eq_true',List.any_eq_false]
 constructor
 · rintro ⟨⟨⟨⟨⟨hr,hc,ht,he⟩,hf⟩,⟨hn,hs,ho⟩,hst,hin⟩,hk⟩,⟨hstar,hah⟩,hs2,ho2⟩
   refine ⟨hf,hs,ho,hk,hr,hn,hc,ht,he,fun i hi j hj e=>?_,fun i hi=>?_,fun i hi=>?_,?_⟩
   · have:=hst j hj
     unfold zdj at this
     rw [get_is.2 ⟨i,hi,e.symm⟩] at this
     simp at this
   · have h1:=hst i hi
     have h2:=hs2 i hi
     unfold zdj at h1
     unfold zbi at h2
     simp only [Bool.or_eq_true,Bool.not_eq_true',decide_eq_true_eq,not_or,Bool.not_eq_false] at h1 h2
     exact ⟨h1.2,h2.2,by omega⟩
   · have h1:=hin i hi
     have h2:=ho2 i hi
     unfold zbi at h2
     simp only [Bool.or_eq_true,Bool.not_eq_true',decide_eq_true_eq,not_or,Bool.not_eq_false] at h2
     exact ⟨by simpa using h1,h2.2,by omega⟩
   · rw [beyS_iff]
     refine ⟨zdl hc.1 fun _=>hstar,fun f hf=>zdl hc.1 fun _=>?_⟩
     have:=hah f hf
     unfold zdy at this
     simp only [decide_eq_true_eq] at this
     omega
 · intro h
   have hb:=beyS_iff.1 h.b
   refine ⟨⟨⟨⟨⟨h.r,h.c,h.t,h.e⟩,h.f⟩,⟨h.n,h.st,h.ou⟩,fun i hi=>?_,fun i hi=>?_⟩,h.k⟩,⟨zir hb.1 h.r,fun f hf=>?_⟩,fun i hi=>?_,fun i hi=>?_⟩
   · have h1:=(h.si i hi).has
     have h2:(getI s.out i.id).2 = false:=by
       cases q:(getI s.out i.id).2 with
       | false=>rfl
       | true=>obtain ⟨j,hj,e⟩:=get_is.1 q;exact absurd e.symm (h.tw j hj i hi)
     unfold zdj;rw [h1,h2];simp
   · rw [(h.so i hi).has];simp
   · have:=zir (hb.2 f hf) h.r
     unfold zdy;rw [decide_eq_true_eq];omega
   · have:=h.si i hi
     unfold zbi;rw [this.knows];have:=this.stamp;simp;omega
   · have:=h.so i hi
     unfold zbi;rw [this.knows];have:=this.stamp;simp;omega
theorem zlb (s:St) (fv sv ov kv:Value) (w:World) :
   Calls Tryz.prog 35 #[stV s fv sv ov kv] w fun e w'=>e = .returned (.bool (inB s.r 1 8 && numS s)) ∧ Below w.heap.size w w':=by
 have OA:=y37h (Own.new w (stA s fv sv ov kv) 43)
 have BE:=y37h ((Below.refl w.heap.size w).alloc (Nat.le_refl _) (.cells (stA s fv sv ov kv) 43))
 have W1:=fun w'=>y37h (zb2 s.r 1 8 w')
 have W2:=fun w'=>y37h (zb2 s.count 0 1000 w')
 have W3:=fun w'=>y37h (zb2 s.clock 0 1000000 w')
 have W4:=fun w'=>y37h (zb2 s.epoch 0 1000000 w')
 have e:(inB s.r 1 8 && numS s) = (inB s.r 1 8 && (inB s.count 0 1000 && (inB s.clock 0 1000000 && inB s.epoch 0 1000000))):=rfl
 rw [e]
 clear e
 have l0:=OA.out.cell
 have z0:=OA.out.lt
 generalize inB s.r 1 8 = b1 at *
 generalize inB s.count 0 1000 = b2 at *
 generalize inB s.clock 0 1000000 = b3 at *
 generalize inB s.epoch 0 1000000 = b4 at *
 cases b1
 · go_enter Tryz.func35,Tryz.ntmps35
   go_wp2_with fail
   refine (W1 _).out.mono ?_
   rintro e w' ⟨rfl,rfl⟩
   go_wp2_with fail
   go_ret
   exact ⟨rfl,BE.out⟩
 · cases b2
   · go_enter Tryz.func35,Tryz.ntmps35
     go_wp2_with fail
     refine (W1 _).out.mono ?_
     rintro e w' ⟨rfl,rfl⟩
     go_wp2_with fail
     refine (W2 _).out.mono ?_
     rintro e w' ⟨rfl,rfl⟩
     go_wp2_with fail
     go_ret
     exact ⟨rfl,BE.out⟩
   · cases b3
     · go_enter Tryz.func35,Tryz.ntmps35
       go_wp2_with fail
       refine (W1 _).out.mono ?_
       rintro e w' ⟨rfl,rfl⟩
       go_wp2_with fail
       refine (W2 _).out.mono ?_
       rintro e w' ⟨rfl,rfl⟩
       go_wp2_with fail
       refine (W3 _).out.mono ?_
       rintro e w' ⟨rfl,rfl⟩
       go_wp2_with fail
       go_ret
       exact ⟨rfl,BE.out⟩
     · go_enter Tryz.func35,Tryz.ntmps35
       go_wp2_with fail
       refine (W1 _).out.mono ?_
       rintro e w' ⟨rfl,rfl⟩
       go_wp2_with fail
       refine (W2 _).out.mono ?_
       rintro e w' ⟨rfl,rfl⟩
       go_wp2_with fail
       refine (W3 _).out.mono ?_
       rintro e w' ⟨rfl,rfl⟩
       go_wp2_with fail
       refine (W4 _).out.mono ?_
       rintro e w' ⟨rfl,rfl⟩
       go_wp2_with fail
       go_ret
       exact ⟨rfl,BE.out⟩
theorem zmw (s:St) (fv sv ov kv:Value) (w:World) (hS:StW w s fv sv ov kv) (h1:s.store.length ≤ 1000) (h2:s.out.length ≤ 1000) :
   Calls Tryz.prog 37 #[stV s fv sv ov kv] w fun e w'=>e = .returned (.bool (zfk s)) ∧ Below w.heap.size w w':=by
 obtain ⟨of_,cf,rfl⟩:=zam hS.lf
 obtain ⟨os,cs,rfl⟩:=hS.ls.val
 obtain ⟨oo,co,rfl⟩:=hS.lo.val
 obtain ⟨ok,ck,rfl⟩:=hS.lk.val
 have HOK1:=y37h hS.ls.oks
 have HOK2:=y37h hS.lo.oks
 have OS:StO (w.alloc (.cells (stA s (.slice of_ s.f.kids.length cf) (.slice os s.store.length cs) (.slice oo s.out.length co) (.slice ok s.k.l.length ck)) 43)) s (.slice of_ s.f.kids.length cf) (.slice os s.store.length cs) (.slice oo s.out.length co) (.slice ok s.k.l.length ck) w.heap.size:=⟨Own.new w _ _,hS.alloc _⟩
 have OS:=y37h OS
 have BE:=y37h ((Below.refl w.heap.size w).alloc (Nat.le_refl _) (.cells (stA s (.slice of_ s.f.kids.length cf) (.slice os s.store.length cs) (.slice oo s.out.length co) (.slice ok s.k.l.length ck)) 43))
 have M1:=fun w' h=>y37h (zgc s.store (.slice os s.store.length cs) w' h h1)
 have M2:=fun w' h=>y37h (zgc s.out (.slice oo s.out.length co) w' h h2)
 have CA:=fun w' (h:StO w' s (.slice of_ s.f.kids.length cf) (.slice os s.store.length cs) (.slice oo s.out.length co) (.slice ok s.k.l.length ck) w.heap.size) (hr:zak s.out)=>y37h (zfs (zdj s) s.store (.slice os s.store.length cs) w.heap.size w' h.w.ls (fun w'' hb x hx=>zlp s _ _ _ _ w.heap.size x w'' (h.later hb) hr h2 (HOK1.out x hx).1))
 have CI:=fun w' (h:StO w' s (.slice of_ s.f.kids.length cf) (.slice os s.store.length cs) (.slice oo s.out.length co) (.slice ok s.k.l.length ck) w.heap.size)=>y37h (zft (hasT s.f) s.out (.slice oo s.out.length co) w.heap.size w' h.w.lo (fun w'' hb x hx=>zmk s _ _ _ _ w.heap.size x w'' (h.later hb) (HOK2.out x hx).1))
 have e:zfk s = ((decide (s.store.length + s.out.length ≤ 40) && (zbc s.store && zbc s.out)) && (!(s.store.any (zdj s)) && !(s.out.any (hasT s.f)))):=rfl
 rw [e]
 have hr:zbc s.out = true → zak s.out:=fun h=>(mayLB_iff.1 h).2
 have HR:=y37h hr
 clear hS e hr
 have l0:=OS.out.o.cell
 have z0:=OS.out.o.lt
 generalize hA:s.store.any (zdj s) = bA at *
 generalize hB:s.out.any (hasT s.f) = bB at *
 generalize hC:zbc s.store = bC at *
 generalize hD:zbc s.out = bD at *
 clear hA hB hC hD
 by_cases hn:s.store.length + s.out.length ≤ 40
 · have g1:decide (40 < (s.store.length:Int) + (s.out.length:Int)) = false:=decide_eq_false (by omega)
   have g2:decide (s.store.length + s.out.length ≤ 40) = true:=decide_eq_true hn
   rw [g2]
   clear g2
   have M1:=M1 _ OS.out.w.ls
   generalize s.store.length = n1 at *
   generalize s.out.length = n2 at *
   cases bC
   · go_enter Tryz.func37,Tryz.ntmps37
     go_wp2_with fail
     refine M1.out.mono ?_
     rintro e w1 ⟨rfl,hb⟩
     clear l0 z0
     replace BE:=y37h (BE.out.trans (hb.mono BE.out.size))
     replace OS:=y37h (OS.out.later hb)
     clear hb
     have l0:=OS.out.o.cell
     have z0:=OS.out.o.lt
     go_wp2_with fail
     go_ret
     exact ⟨zaa (by simp),BE.out⟩
   · cases bD
     · go_enter Tryz.func37,Tryz.ntmps37
       go_wp2_with fail
       refine M1.out.mono ?_
       rintro e w1 ⟨rfl,hb⟩
       clear l0 z0
       replace BE:=y37h (BE.out.trans (hb.mono BE.out.size))
       replace OS:=y37h (OS.out.later hb)
       clear hb
       have l0:=OS.out.o.cell
       have z0:=OS.out.o.lt
       go_wp2_with fail
       refine (M2 _ OS.out.w.lo).out.mono ?_
       rintro e w2 ⟨rfl,hb⟩
       clear l0 z0
       replace BE:=y37h (BE.out.trans (hb.mono BE.out.size))
       replace OS:=y37h (OS.out.later hb)
       clear hb
       have l0:=OS.out.o.cell
       have z0:=OS.out.o.lt
       go_wp2_with fail
       go_ret
       exact ⟨zaa (by simp),BE.out⟩
     · have HR2:=y37h (HR.out rfl)
       clear HR
       cases bA
       · go_enter Tryz.func37,Tryz.ntmps37
         go_wp2_with fail
         refine M1.out.mono ?_
         rintro e w1 ⟨rfl,hb⟩
         clear l0 z0
         replace BE:=y37h (BE.out.trans (hb.mono BE.out.size))
         replace OS:=y37h (OS.out.later hb)
         clear hb
         have l0:=OS.out.o.cell
         have z0:=OS.out.o.lt
         go_wp2_with fail
         refine (M2 _ OS.out.w.lo).out.mono ?_
         rintro e w2 ⟨rfl,hb⟩
         clear l0 z0
         replace BE:=y37h (BE.out.trans (hb.mono BE.out.size))
         replace OS:=y37h (OS.out.later hb)
         clear hb
         have l0:=OS.out.o.cell
         have z0:=OS.out.o.lt
         go_wp2_with fail
         refine (CA _ OS.out HR2.out).out.mono ?_
         rintro e w3 ⟨rfl,hb⟩
         clear l0 z0
         replace BE:=y37h (BE.out.trans (hb.mono BE.out.size))
         replace OS:=y37h (OS.out.later hb)
         clear hb
         have l0:=OS.out.o.cell
         have z0:=OS.out.o.lt
         go_wp2_with fail
         refine (CI _ OS.out).out.mono ?_
         rintro e w4 ⟨rfl,hb⟩
         clear l0 z0
         replace BE:=y37h (BE.out.trans (hb.mono BE.out.size))
         replace OS:=y37h (OS.out.later hb)
         clear hb
         have l0:=OS.out.o.cell
         have z0:=OS.out.o.lt
         go_wp2_with fail
         go_ret
         exact ⟨zaa (by simp),BE.out⟩
       · go_enter Tryz.func37,Tryz.ntmps37
         go_wp2_with fail
         refine M1.out.mono ?_
         rintro e w1 ⟨rfl,hb⟩
         clear l0 z0
         replace BE:=y37h (BE.out.trans (hb.mono BE.out.size))
         replace OS:=y37h (OS.out.later hb)
         clear hb
         have l0:=OS.out.o.cell
         have z0:=OS.out.o.lt
         go_wp2_with fail
         refine (M2 _ OS.out.w.lo).out.mono ?_
         rintro e w2 ⟨rfl,hb⟩
         clear l0 z0
         replace BE:=y37h (BE.out.trans (hb.mono BE.out.size))
         replace OS:=y37h (OS.out.later hb)
         clear hb
         have l0:=OS.out.o.cell
         have z0:=OS.out.o.lt
         go_wp2_with fail
         refine (CA _ OS.out HR2.out).out.mono ?_
         rintro e w3 ⟨rfl,hb⟩
         clear l0 z0
         replace BE:=y37h (BE.out.trans (hb.mono BE.out.size))
         replace OS:=y37h (OS.out.later hb)
         clear hb
         have l0:=OS.out.o.cell
         have z0:=OS.out.o.lt
         go_wp2_with fail
         go_ret
         exact ⟨zaa (by simp),BE.out⟩
 · have g1:decide (40 < (s.store.length:Int) + (s.out.length:Int)) = true:=decide_eq_true (by omega)
   have g2:decide (s.store.length + s.out.length ≤ 40) = false:=decide_eq_false hn
   rw [g2]
   clear g2
   go_enter Tryz.func37,Tryz.ntmps37
   go_wp2_with fail
   go_ret
   exact ⟨zaa (by simp),BE.out⟩
theorem znq (s:St) (fv sv ov kv:Value) (k:Nat) (hk:k < 8) (hr:s.r = (k:Int) + 1) (w:World) (hS:StW w s fv sv ov kv) :
   Calls Tryz.prog 39 #[stV s fv sv ov kv] w fun e w'=>e = .returned (.bool (zfi s k)) ∧ Below w.heap.size w w':=by
 obtain ⟨of_,cf,rfl⟩:=zam hS.lf
 obtain ⟨os,cs,rfl⟩:=hS.ls.val
 obtain ⟨oo,co,rfl⟩:=hS.lo.val
 obtain ⟨ok,ck,rfl⟩:=hS.lk.val
 have HOK1:=y37h hS.ls.oks
 have HOK2:=y37h hS.lo.oks
 have OS0:StO (w.alloc (.cells (stA s (.slice of_ s.f.kids.length cf) (.slice os s.store.length cs) (.slice oo s.out.length co) (.slice ok s.k.l.length ck)) 43)) s (.slice of_ s.f.kids.length cf) (.slice os s.store.length cs) (.slice oo s.out.length co) (.slice ok s.k.l.length ck) w.heap.size:=⟨Own.new w _ _,hS.alloc _⟩
 have OS:=y37h OS0
 have BE:=y37h ((Below.refl w.heap.size w).alloc (Nat.le_refl _) (.cells (stA s (.slice of_ s.f.kids.length cf) (.slice os s.store.length cs) (.slice oo s.out.length co) (.slice ok s.k.l.length ck)) 43))
 have m1:=fun dd os_=>y37h (Calls.regrown_of (zgi (zdy s k) s.k.l (.slice ok s.k.l.length ck) w.heap.size _ (OS0.w.regrown dd os_).lk (fun w'' hb j f u hf hT=>znb s (.slice of_ s.f.kids.length cf) (.slice os s.store.length cs) (.slice oo s.out.length co) (.slice ok s.k.l.length ck) w.heap.size k hk hr f u w'' (((OS0.o.later (below_regrown _ dd os_)).later hb)) hT)))
 have m2:=fun dd os_=>y37h (Calls.regrown_of (zc4 (zbi s) s.store (.slice os s.store.length cs) w.heap.size _ (OS0.w.regrown dd os_).ls (fun w'' hb x hx=>zgh s (.slice of_ s.f.kids.length cf) (.slice os s.store.length cs) (.slice oo s.out.length co) (.slice ok s.k.l.length ck) w.heap.size x w'' ((OS0.later (below_regrown _ dd os_)).later hb) (HOK1.out x hx).1)))
 have m3:=fun dd os_=>y37h (Calls.regrown_of (zc4 (zbi s) s.out (.slice oo s.out.length co) w.heap.size _ (OS0.w.regrown dd os_).lo (fun w'' hb x hx=>zgh s (.slice of_ s.f.kids.length cf) (.slice os s.store.length cs) (.slice oo s.out.length co) (.slice ok s.k.l.length ck) w.heap.size x w'' ((OS0.later (below_regrown _ dd os_)).later hb) (HOK2.out x hx).1)))
 have L0:=fun dd os_=>(OS0.o.has.regrown dd os_ 0).trans (show _ = some (Value.int .i64 ((k:Int) + 1)) from by rw [← hr];rfl)
 have L6:=fun dd os_=>(OS0.o.has.regrown dd os_ 6).trans (show _ = some (Value.slice os s.store.length cs) from rfl)
 have L7:=fun dd os_=>(OS0.o.has.regrown dd os_ 7).trans (show _ = some (Value.slice oo s.out.length co) from rfl)
 have L8:=fun dd os_=>(OS0.o.has.regrown dd os_ (8 + k)).trans (zt5 s (.slice of_ s.f.kids.length cf) (.slice os s.store.length cs) (.slice oo s.out.length co) (.slice ok s.k.l.length ck) hk)
 have L16:=fun dd os_=>(OS0.o.has.regrown dd os_ 16).trans (show _ = some (Value.slice ok s.k.l.length ck) from rfl)
 have L17:=fun dd os_=>(OS0.o.has.regrown dd os_ 17).trans (show _ = some (Value.int .i64 s.count) from rfl)
 have e:zfi s k = ((decide (s.k.star k ≤ s.count) && !(s.k.l.any (zdy s k))) && (!(s.store.any (zbi s)) && !(s.out.any (zbi s)))):=rfl
 rw [e]
 have zs:=OS0.o.lt
 have k0:(0:Int) ≤ (k:Int):=by omega
 have k1:(k:Int) < 8:=by omega
 have k2:(k:Int) + 1 - 1 = k:=by omega
 clear hS e hr OS0
 generalize hA:s.k.l.any (zdy s k) = bA at *
 generalize hB:s.store.any (zbi s) = bB at *
 generalize hC:s.out.any (zbi s) = bC at *
 clear hA hB hC
 by_cases hn:s.k.star k ≤ s.count
 · have g1:decide (s.k.star k ≤ s.count) = true:=decide_eq_true hn
   rw [g1]
   cases bA
   · cases bB
     · go_enter Tryz.func39,Tryz.ntmps39
       go_upto_region 3 with fail
       refine wp_region_quiet_below (by kernel_rfl) (by kernel_rfl) ?_
       repeat (first | go_big_quiet_step (first | (with_reducible exact (m1 _ _).out) | (with_reducible exact (m2 _ _).out) | (with_reducible exact (m3 _ _).out)) | quiet_step (first | (with_reducible exact (m1 _ _).out) | (with_reducible exact (m2 _ _).out) | (with_reducible exact (m3 _ _).out)))
       refine wpQuiet_nil ?_
       intro w7 hw'
       have hb7:=zae hw'
       clear hw' m1 m2 m3 L0 L6 L7 L8 L16 L17
       go_wp2_with fail
       go_ret
       exact ⟨zaa (by simp),BE.out.trans (hb7.mono BE.out.size)⟩
     · go_enter Tryz.func39,Tryz.ntmps39
       go_upto_region 3 with fail
       refine wp_region_quiet_below (by kernel_rfl) (by kernel_rfl) ?_
       repeat (first | go_big_quiet_step (first | (with_reducible exact (m1 _ _).out) | (with_reducible exact (m2 _ _).out) | (with_reducible exact (m3 _ _).out)) | quiet_step (first | (with_reducible exact (m1 _ _).out) | (with_reducible exact (m2 _ _).out) | (with_reducible exact (m3 _ _).out)))
       refine wpQuiet_nil ?_
       intro w7 hw'
       have hb7:=zae hw'
       clear hw' m1 m2 m3 L0 L6 L7 L8 L16 L17
       go_wp2_with fail
       go_ret
       exact ⟨zaa (by simp),BE.out.trans (hb7.mono BE.out.size)⟩
   · go_enter Tryz.func39,Tryz.ntmps39
     go_upto_region 3 with fail
     refine wp_region_quiet_below (by kernel_rfl) (by kernel_rfl) ?_
     repeat (first | go_big_quiet_step (first | (with_reducible exact (m1 _ _).out) | (with_reducible exact (m2 _ _).out) | (with_reducible exact (m3 _ _).out)) | quiet_step (first | (with_reducible exact (m1 _ _).out) | (with_reducible exact (m2 _ _).out) | (with_reducible exact (m3 _ _).out)))
     refine wpQuiet_nil ?_
     intro w7 hw'
     have hb7:=zae hw'
     clear hw' m1 m2 m3 L0 L6 L7 L8 L16 L17
     go_wp2_with fail
     go_ret
     exact ⟨zaa (by simp),BE.out.trans (hb7.mono BE.out.size)⟩
 · have g1:decide (s.k.star k ≤ s.count) = false:=decide_eq_false hn
   rw [g1]
   go_enter Tryz.func39,Tryz.ntmps39
   go_upto_region 3 with fail
   refine wp_region_quiet_below (by kernel_rfl) (by kernel_rfl) ?_
   repeat (first | go_big_quiet_step (first | (with_reducible exact (m1 _ _).out) | (with_reducible exact (m2 _ _).out) | (with_reducible exact (m3 _ _).out)) | quiet_step (first | (with_reducible exact (m1 _ _).out) | (with_reducible exact (m2 _ _).out) | (with_reducible exact (m3 _ _).out)))
   refine wpQuiet_nil ?_
   intro w7 hw'
   have hb7:=zae hw'
   clear hw' m1 m2 m3 L0 L6 L7 L8 L16 L17
   go_wp2_with fail
   go_ret
   exact ⟨zaa (by simp),BE.out.trans (hb7.mono BE.out.size)⟩
theorem zfd (s:St) (fv sv ov kv:Value) (w:World) (hS:StW w s fv sv ov kv) (h1:s.store.length ≤ 1000) (h2:s.out.length ≤ 1000) (h3:(zah s.k.l).length ≤ 10000) :
   Calls Tryz.prog 11 #[stV s fv sv ov kv] w fun e w'=>e = .returned (.bool (mayS s)) ∧ Below w.heap.size w w':=by
 obtain ⟨of_,cf,rfl⟩:=zam hS.lf
 obtain ⟨os,cs,rfl⟩:=hS.ls.val
 obtain ⟨oo,co,rfl⟩:=hS.lo.val
 obtain ⟨ok,ck,rfl⟩:=hS.lk.val
 have OS:StO (w.alloc (.cells (stA s (.slice of_ s.f.kids.length cf) (.slice os s.store.length cs) (.slice oo s.out.length co) (.slice ok s.k.l.length ck)) 43)) s (.slice of_ s.f.kids.length cf) (.slice os s.store.length cs) (.slice oo s.out.length co) (.slice ok s.k.l.length ck) w.heap.size:=⟨Own.new w _ _,hS.alloc _⟩
 have OS:=y37h OS
 have BE:=y37h ((Below.refl w.heap.size w).alloc (Nat.le_refl _) (.cells (stA s (.slice of_ s.f.kids.length cf) (.slice os s.store.length cs) (.slice oo s.out.length co) (.slice ok s.k.l.length ck)) 43))
 have N1:=fun w'=>y37h (zlb s (.slice of_ s.f.kids.length cf) (.slice os s.store.length cs) (.slice oo s.out.length co) (.slice ok s.k.l.length ck) w')
 have N2:=fun w' h=>y37h (zcz s.f (.slice of_ s.f.kids.length cf) w' h)
 have N3:=fun w' h=>y37h (zmw s (.slice of_ s.f.kids.length cf) (.slice os s.store.length cs) (.slice oo s.out.length co) (.slice ok s.k.l.length ck) w' h h1 h2)
 have N4:=fun w' h=>y37h (zk9 zax rfl s.k (.slice ok s.k.l.length ck) w' h h3)
 have N5:(inB s.r 1 8 && numS s) = true → ∀ w' (h:StW w' s (.slice of_ s.f.kids.length cf) (.slice os s.store.length cs) (.slice oo s.out.length co) (.slice ok s.k.l.length ck)),Hid (Calls Tryz.prog 39 #[(stV s (.slice of_ s.f.kids.length cf) (.slice os s.store.length cs) (.slice oo s.out.length co) (.slice ok s.k.l.length ck))] w' fun e w''=>e = .returned (.bool (zfi s (s.r - 1).toNat)) ∧ Below w'.heap.size w' w''):=fun hn w' h=>by
   have hr:=inB_iff.1 (Bool.and_eq_true_iff.1 hn).1
   exact y37h (znq s (.slice of_ s.f.kids.length cf) (.slice os s.store.length cs) (.slice oo s.out.length co) (.slice ok s.k.l.length ck) (s.r - 1).toNat (by omega) (by omega) w' h)
 have N5:=y37h N5
 have e:=zpv s
 unfold zj0 at e
 rw [← e]
 clear hS e
 have l0:=OS.out.o.cell
 have z0:=OS.out.o.lt
 generalize (inB s.r 1 8 && numS s) = bA at *
 generalize Pr.mayB s.f = bB at *
 generalize zfk s = bC at *
 generalize mayK zax s.k = bD at *
 generalize zfi s (s.r - 1).toNat = bE at *
 generalize s.store.length = n1 at *
 generalize s.out.length = n2 at *
 generalize s.k.l.length = n3 at *
 cases bA
 · go_enter Tryz.func11,Tryz.ntmps11
   go_wp2_with (first | (refine wpList_load_mid (by rfl) 43 _ (by rfl) w.heap.size 0 (by rfl) ((stA s (.slice of_ s.f.kids.length cf) (.slice os n1 cs) (.slice oo n2 co) (.slice ok n3 ck))).toList _ OS.out.o.range Tryz.underlying43 (by rfl) (by kernel_rfl) ?_) | fail)
   refine (N1 _).out.mono ?_
   rintro e w1 ⟨rfl,hb⟩
   clear l0 z0
   replace BE:=y37h (BE.out.trans (hb.mono BE.out.size))
   replace OS:=y37h (OS.out.later hb)
   clear hb
   have l0:=OS.out.o.cell
   have z0:=OS.out.o.lt
   go_wp2_with fail
   go_ret
   exact ⟨zaa (by simp),BE.out⟩
 · cases bB
   · go_enter Tryz.func11,Tryz.ntmps11
     go_wp2_with (first | (refine wpList_load_mid (by rfl) 43 _ (by rfl) w.heap.size 0 (by rfl) ((stA s (.slice of_ s.f.kids.length cf) (.slice os n1 cs) (.slice oo n2 co) (.slice ok n3 ck))).toList _ OS.out.o.range Tryz.underlying43 (by rfl) (by kernel_rfl) ?_) | fail)
     refine (N1 _).out.mono ?_
     rintro e w1 ⟨rfl,hb⟩
     clear l0 z0
     replace BE:=y37h (BE.out.trans (hb.mono BE.out.size))
     replace OS:=y37h (OS.out.later hb)
     clear hb
     have l0:=OS.out.o.cell
     have z0:=OS.out.o.lt
     go_wp2_with fail
     refine (N2 _ OS.out.w.lf).out.mono ?_
     rintro e w2 ⟨rfl,hb⟩
     clear l0 z0
     replace BE:=y37h (BE.out.trans (hb.mono BE.out.size))
     replace OS:=y37h (OS.out.later hb)
     clear hb
     have l0:=OS.out.o.cell
     have z0:=OS.out.o.lt
     go_wp2_with fail
     go_ret
     exact ⟨zaa (by simp),BE.out⟩
   · cases bC
     · go_enter Tryz.func11,Tryz.ntmps11
       go_wp2_with (first | (refine wpList_load_mid (by rfl) 43 _ (by rfl) w.heap.size 0 (by rfl) ((stA s (.slice of_ s.f.kids.length cf) (.slice os n1 cs) (.slice oo n2 co) (.slice ok n3 ck))).toList _ OS.out.o.range Tryz.underlying43 (by rfl) (by kernel_rfl) ?_) | fail)
       refine (N1 _).out.mono ?_
       rintro e w1 ⟨rfl,hb⟩
       clear l0 z0
       replace BE:=y37h (BE.out.trans (hb.mono BE.out.size))
       replace OS:=y37h (OS.out.later hb)
       clear hb
       have l0:=OS.out.o.cell
       have z0:=OS.out.o.lt
       go_wp2_with fail
       refine (N2 _ OS.out.w.lf).out.mono ?_
       rintro e w2 ⟨rfl,hb⟩
       clear l0 z0
       replace BE:=y37h (BE.out.trans (hb.mono BE.out.size))
       replace OS:=y37h (OS.out.later hb)
       clear hb
       have l0:=OS.out.o.cell
       have z0:=OS.out.o.lt
       go_wp2_with (first | (refine zbs (by rfl) 43 _ (by rfl) w.heap.size 0 (by rfl) ((stA s (.slice of_ s.f.kids.length cf) (.slice os n1 cs) (.slice oo n2 co) (.slice ok n3 ck))).toList _ OS.out.o.range Tryz.underlying43 (by rfl) (by kernel_rfl) ?_) | fail)
       refine (N3 _ OS.out.w).out.mono ?_
       rintro e w3 ⟨rfl,hb⟩
       clear l0 z0
       replace BE:=y37h (BE.out.trans (hb.mono BE.out.size))
       replace OS:=y37h (OS.out.later hb)
       clear hb
       have l0:=OS.out.o.cell
       have z0:=OS.out.o.lt
       go_wp2_with fail
       go_ret
       exact ⟨zaa (by simp),BE.out⟩
     · cases bD
       · go_enter Tryz.func11,Tryz.ntmps11
         go_wp2_with (first | (refine wpList_load_mid (by rfl) 43 _ (by rfl) w.heap.size 0 (by rfl) ((stA s (.slice of_ s.f.kids.length cf) (.slice os n1 cs) (.slice oo n2 co) (.slice ok n3 ck))).toList _ OS.out.o.range Tryz.underlying43 (by rfl) (by kernel_rfl) ?_) | fail)
         refine (N1 _).out.mono ?_
         rintro e w1 ⟨rfl,hb⟩
         clear l0 z0
         replace BE:=y37h (BE.out.trans (hb.mono BE.out.size))
         replace OS:=y37h (OS.out.later hb)
         clear hb
         have l0:=OS.out.o.cell
         have z0:=OS.out.o.lt
         go_wp2_with fail
         refine (N2 _ OS.out.w.lf).out.mono ?_
         rintro e w2 ⟨rfl,hb⟩
         clear l0 z0
         replace BE:=y37h (BE.out.trans (hb.mono BE.out.size))
         replace OS:=y37h (OS.out.later hb)
         clear hb
         have l0:=OS.out.o.cell
         have z0:=OS.out.o.lt
         go_wp2_with (first | (refine zbs (by rfl) 43 _ (by rfl) w.heap.size 0 (by rfl) ((stA s (.slice of_ s.f.kids.length cf) (.slice os n1 cs) (.slice oo n2 co) (.slice ok n3 ck))).toList _ OS.out.o.range Tryz.underlying43 (by rfl) (by kernel_rfl) ?_) | fail)
         refine (N3 _ OS.out.w).out.mono ?_
         rintro e w3 ⟨rfl,hb⟩
         clear l0 z0
         replace BE:=y37h (BE.out.trans (hb.mono BE.out.size))
         replace OS:=y37h (OS.out.later hb)
         clear hb
         have l0:=OS.out.o.cell
         have z0:=OS.out.o.lt
         go_wp2_with fail
         refine (N4 _ OS.out.w.lk).out.mono ?_
         rintro e w4 ⟨rfl,hb⟩
         clear l0 z0
         replace BE:=y37h (BE.out.trans (hb.mono BE.out.size))
         replace OS:=y37h (OS.out.later hb)
         clear hb
         have l0:=OS.out.o.cell
         have z0:=OS.out.o.lt
         go_wp2_with fail
         go_ret
         exact ⟨zaa (by simp),BE.out⟩
       · go_enter Tryz.func11,Tryz.ntmps11
         go_wp2_with (first | (refine wpList_load_mid (by rfl) 43 _ (by rfl) w.heap.size 0 (by rfl) ((stA s (.slice of_ s.f.kids.length cf) (.slice os n1 cs) (.slice oo n2 co) (.slice ok n3 ck))).toList _ OS.out.o.range Tryz.underlying43 (by rfl) (by kernel_rfl) ?_) | fail)
         refine (N1 _).out.mono ?_
         rintro e w1 ⟨rfl,hb⟩
         clear l0 z0
         replace BE:=y37h (BE.out.trans (hb.mono BE.out.size))
         replace OS:=y37h (OS.out.later hb)
         clear hb
         have l0:=OS.out.o.cell
         have z0:=OS.out.o.lt
         go_wp2_with fail
         refine (N2 _ OS.out.w.lf).out.mono ?_
         rintro e w2 ⟨rfl,hb⟩
         clear l0 z0
         replace BE:=y37h (BE.out.trans (hb.mono BE.out.size))
         replace OS:=y37h (OS.out.later hb)
         clear hb
         have l0:=OS.out.o.cell
         have z0:=OS.out.o.lt
         go_wp2_with (first | (refine zbs (by rfl) 43 _ (by rfl) w.heap.size 0 (by rfl) ((stA s (.slice of_ s.f.kids.length cf) (.slice os n1 cs) (.slice oo n2 co) (.slice ok n3 ck))).toList _ OS.out.o.range Tryz.underlying43 (by rfl) (by kernel_rfl) ?_) | fail)
         refine (N3 _ OS.out.w).out.mono ?_
         rintro e w3 ⟨rfl,hb⟩
         clear l0 z0
         replace BE:=y37h (BE.out.trans (hb.mono BE.out.size))
         replace OS:=y37h (OS.out.later hb)
         clear hb
         have l0:=OS.out.o.cell
         have z0:=OS.out.o.lt
         go_wp2_with fail
         refine (N4 _ OS.out.w.lk).out.mono ?_
         rintro e w4 ⟨rfl,hb⟩
         clear l0 z0
         replace BE:=y37h (BE.out.trans (hb.mono BE.out.size))
         replace OS:=y37h (OS.out.later hb)
         clear hb
         have l0:=OS.out.o.cell
         have z0:=OS.out.o.lt
         go_wp2_with (first | (refine zbs (by rfl) 43 _ (by rfl) w.heap.size 0 (by rfl) ((stA s (.slice of_ s.f.kids.length cf) (.slice os n1 cs) (.slice oo n2 co) (.slice ok n3 ck))).toList _ OS.out.o.range Tryz.underlying43 (by rfl) (by kernel_rfl) ?_) | fail)
         refine (N5.out (by first | trivial | rfl) _ OS.out.w).out.mono ?_
         rintro e w5 ⟨rfl,hb⟩
         clear l0 z0
         replace BE:=y37h (BE.out.trans (hb.mono BE.out.size))
         replace OS:=y37h (OS.out.later hb)
         clear hb
         have l0:=OS.out.o.cell
         have z0:=OS.out.o.lt
         go_wp2_with fail
         go_ret
         exact ⟨zaa (by simp),BE.out⟩
def doE (s:St) (d:De):Int:=if za0 d.what = 0 then creE s (itS d.id d.kd d.num d.x d.y) else if za0 d.what = 1 then updE s (itS d.id d.kd d.num d.x d.y) else if za0 d.what = 2 then delE s d.id else filE s d.f
def doS (s:St) (d:De):St:=if za0 d.what = 0 then creS s (itS d.id d.kd d.num d.x d.y) else if za0 d.what = 1 then updS s (itS d.id d.kd d.num d.x d.y) else if za0 d.what = 2 then delS s d.id else filS s d.f
theorem zu2 (s:St) (x:Itm):0 ≤ creE s x ∧ creE s x ≤ 10:=by unfold creE;(repeat' split) <;> decide
theorem zv0 (s:St) (x:Itm):0 ≤ updE s x ∧ updE s x ≤ 10:=by unfold updE;(repeat' split) <;> decide
theorem zu3 (s:St) (id:ByteArray):0 ≤ delE s id ∧ delE s id ≤ 10:=by unfold delE;(repeat' split) <;> decide
theorem zu8 (s:St) (f:Pr):0 ≤ filE s f ∧ filE s f ≤ 10:=by unfold filE;(repeat' split) <;> decide
theorem zet {E:Int} (h:0 ≤ E ∧ E ≤ 10) (w:World):Calls Tryz.prog 17 #[errI E] w fun e w'=>e = .returned (.int .i64 E) ∧ w = w':=by
 have:=zo9 E.toNat (by omega) w
 rw [show ((E.toNat:Nat):Int) = E by omega] at this
 exact this
theorem zlf (w:World) (t e ty:TypeId) (z:Value) (ht:Tryz.prog.underlying t = some (.slice e)) (hv:∀ w,(zeroValue e).run Tryz.prog w = .ok z w) (size:Nat) (hsz:z.cells.size = size) (h0:0 < size) (h1:∀ v ∈ z.cells.toList,v.oneCell' = true) (b o n c:Nat) (hn:0 < n)
   (hc:∀ j,j < n * size → (w.cell? ⟨b,o + j,none⟩).isSome = true) (hf:∀ j,j < n * size → w.frozen? ⟨b,o + j,none⟩ = false) :
   ∃ zs:List Value,zs.length = n * size ∧ ∀ ty,(Builtin.clear_ #[t] ty #[.slice (some ⟨b,o,none⟩) n c]).run Tryz.prog w = .ok (.tuple #[]) (w.setCells b o zs):=by
 have hl:(Builtin.zeroCells z.cells n).toList.length = n * size:=by simp [Builtin.zeroCells,hsz]
 refine ⟨(Builtin.zeroCells z.cells n).toList,hl,fun ty=>?_⟩
 have h2:∀ v ∈ (Builtin.zeroCells z.cells n).toList,v.oneCell' = true:=by
   intro v hv'
   unfold Builtin.zeroCells at hv'
   simp only [Array.toList_map,List.mem_map] at hv'
   obtain ⟨i,_,rfl⟩:=hv'
   refine h1 _ ?_
   have:i % z.cells.size < z.cells.size:=Nat.mod_lt _ (by omega)
   rw [getElem!_pos z.cells _ this]
   exact Array.getElem_mem_toList this
 have hst:=run_storeCells_cells (P:=Tryz.prog) b o (Builtin.zeroCells z.cells n).toList 0 w (by rw [hl];simpa using hc) (by rw [hl];simpa using hf) h2
 simp only [Nat.add_zero] at hst
 obtain ⟨m,rfl⟩:∃ m,n = m + 1:=⟨n - 1,by omega⟩
 simp [Builtin.clear_,run_underlying ht,hv,hst]
theorem zt3 (xs:List Value) (vs:List Value):∀ (c:List Value) (o:Nat),setL (xs ++ c) (xs.length + o) vs = xs ++ setL c o vs:=by
 induction vs with
 | nil=>intro c o;rfl
 | cons v vs ih =>
   intro c o
   show setL ((xs ++ c).set (xs.length + o) v) (xs.length + o + 1) vs = _
   rw [List.set_append_right _ _ (by omega),show xs.length + o - xs.length = o by omega,Nat.add_assoc,ih]
   rfl
theorem zip (x:Itm):∀ (m:List Itm) (i:Nat),i < m.length → setL (zap m) (i * 8) (ic x) = zap (m.set i x)
 | [],i,h=>by simp at h
 | a :: m,0,_=>rfl
 | a :: m,i + 1,h=>by
   have e:zap (a :: m) = ic a ++ zap m:=rfl
   rw [e,show (i + 1) * 8 = (ic a).length + i * 8 by show (i + 1) * 8 = 8 + i * 8;omega,zt3,zip x m i (by simpa using h)]
   rfl
structure DfS (w:World) (B:Nat) (l:List Itm) (g cap n i j:Nat) (m:List Itm) (wr:World):Prop where
 len:m.length = n
 head:m.take i = (l.take j).filter fun x=>!x.d
 tail:m.drop j = l.drop j
 lt:i < j
 own:wr.ownsRow B 69 8 (.slice (some ⟨g,0,none⟩) n cap) n (zap m)
 gr:Below B w wr
def zxg (w:World) (B:Nat) (l:List Itm) (g cap n:Nat) (i j:Value) (wr:World):Prop :=
 ∃ (a b:Nat) (m:List Itm),i = .int .i64 a ∧ j = .int .i64 b ∧ b ≤ n ∧ Hid (DfS w B l g cap n a b m wr)
section
variable {w wr:World} {B:Nat} {l:List Itm} {g cap n i j:Nat} {m:List Itm}
theorem DfS.skip {w8:World} {x:Itm} (h:DfS w B l g cap n i j m wr) (hx:l[j]? = some x) (hd:x.d = true) (hb:Below wr.heap.size wr w8) (hB:B ≤ wr.heap.size):DfS w B l g cap n i (j + 1) m w8:=by
 refine ⟨h.len,?_,?_,by have:=h.lt;omega,za8 h.own hb,h.gr.trans (hb.mono hB)⟩
 · rw [h.head,List.take_add_one,hx]
   simp [hd]
 · have:=congrArg (List.drop 1) h.tail
   simpa [List.drop_drop] using this
theorem DfS.keep {w8:World} {x:Itm} (h:DfS w B l g cap n i j m wr) (hl:l.length = n) (hx:l[j]? = some x) (hd:x.d = false) (hb:Below wr.heap.size wr w8) (hB:B ≤ wr.heap.size):DfS w B l g cap n (i + 1) (j + 1) (m.set i x) (w8.setCells g (i * 8) (ic x)):=by
 have hj:=zbj hx
 have hlt:=h.lt
 have hlen:=h.len
 have hg:=h.own.lt g rfl
 refine ⟨by rw [List.length_set];exact h.len,?_,?_,by omega,?_,?_⟩
 · have e1:(m.set i x).take (i + 1) = m.take i ++ [x]:=by
     rw [List.take_add_one,List.getElem?_set_self (by omega),List.take_set_of_le (Nat.le_refl _)]
     rfl
   rw [e1,h.head,List.take_add_one (l:=l),hx]
   simp [hd]
 · rw [List.drop_set_of_lt (by omega)]
   have:=congrArg (List.drop 1) h.tail
   simpa [List.drop_drop] using this
 · rw [← zip x m i (by omega)]
   exact zig _ _ (za8 h.own hb) (by show i * 8 + 8 ≤ _;omega)
 · exact zab hg.1 _ _ (h.gr.trans (hb.mono hB))
theorem DfS.fin {zs:List Value} (h:DfS w B l g cap n i n m wr) (hl:l.length = n) (hok:∀ i ∈ l,i.id.size ≤ maxLen ∧ i.kd.size ≤ maxLen) (hz:zs.length = (n - i) * 8):Row 8 ic (wr.setCells g (i * 8) zs) (l.filter fun x=>!x.d) (.slice (some ⟨g,0,none⟩) i cap) ∧ Below B w (wr.setCells g (i * 8) zs):=by
 have hg:=h.own.lt g rfl
 have hlt:=h.lt
 have hlen:=h.len
 have hhead:m.take i = l.filter fun x=>!x.d:=by
   have:=h.head
   rw [List.take_of_length_le (l:=l) (by omega)] at this
   exact this
 have hli:(l.filter fun x=>!x.d).length = i:=by rw [← hhead,List.length_take];omega
 have hown:=zig zs (i * 8) h.own (by rw [hz];omega)
 obtain ⟨_,_,_,e0,hle,hmx,_⟩:=zan h.own
 cases e0
 refine ⟨⟨_,cap,g,0,by rw [hli],⟨by omega,?_,fun _=>⟨rfl,(hown.lt g rfl).2⟩,fun k y hk a u hu=>?_,fun y hy=>hok y (List.mem_filter.1 hy).1⟩⟩,zab hg.1 _ _ h.gr⟩
 · exact hmx
 · have hki:k < i:=by rw [← hli];exact zbj hk
   have ha:a < 8:=(List.getElem?_eq_some_iff.1 hu).1
   have e1:m[k]? = some y:=by
     rw [← hhead,List.getElem?_take,if_pos hki] at hk
     exact hk
   rw [World.cell?_setCells_out g zs (i * 8) wr ⟨g,0 + k * 8 + a,none⟩ (fun _ _=>Or.inl (by show 0 + k * 8 + a < i * 8;omega)),Nat.zero_add,h.own.cellAt (k * 8 + a) (by omega),zd6 m k y e1 a ha]
   exact hu
end
theorem zfu (x:Itm) (w:World):Calls Tryz.prog 57 #[iV x] w fun e w'=>e = .returned (.bool x.d) ∧ Below w.heap.size w w':=by
 have BE:=y37h ((Below.refl w.heap.size w).alloc (Nat.le_refl _) (.cells (iA x) 69))
 go_enter Tryz.func57,Tryz.ntmps57
 go_wp2
 go_ret
 exact ⟨rfl,BE.out⟩
theorem zl4 {l:List Itm} (h:l.any (fun x=>x.d) = false):l.filter (fun x=>!x.d) = l:=by
 rw [List.filter_eq_self]
 intro x hx
 have:=List.any_eq_false.1 h x hx
 simpa using this
theorem zxa:∀ w,(zeroValue 69).run Tryz.prog w = .ok (iV Itm.zero) w:=Tryz.zeroValue69
theorem zk5 (l:List Itm) (v:Value) (B:Nat) (w:World) (hO:OwnI w B l v) (hB:B ≤ w.heap.size) (hok:∀ i ∈ l,i.id.size ≤ maxLen ∧ i.kd.size ≤ maxLen) (hl:l.length ≤ 30000) :
   Calls Tryz.prog 55 #[v,.func (Fn.func 57) #[] #[]] w fun e w'=>∃ v',e = .returned v' ∧ Row 8 ic w' (l.filter fun x=>!x.d) v' ∧ Below B w w':=by
 have IX:=y37h (zi5 (fun x=>x.d) l v w (hO.row hok) (fun w' _ x _=>zfu x w'))
 have HOK:=y37h hok
 have HO:=y37h hO
 obtain ⟨oa,cap,g0,rfl,h1,h2,hg⟩:=zan hO
 unfold maxLen at h2
 have HG:=y37h hg
 clear hO hok hg
 generalize hn:l.length = n at *
 have HN:=y37h hn
 clear hn
 go_enter Tryz.func55,Tryz.ntmps55
 go_wp2_with fail
 refine IX.out.mono ?_
 rintro e w1 ⟨nn,rfl,hf,hb⟩
 have HO1:=y37h (HO.out.later hb)
 have HB1:=y37h (hb.mono hB)
 have hs1:=hb.size
 clear IX HO hb
 rcases hf with ⟨k,x,hx,hp,rfl,hnn⟩ | ⟨rfl,hnn⟩
 · have hk:k < n:=by rw [← HN.out];exact zbj hx
   obtain ⟨rfl,hg1,hg2⟩:=HG.out (by omega)
   have hBw:B ≤ w1.heap.size:=by omega
   have D0:Hid (DfS w B l g0 cap n k (k + 1) l w1):=y37h ⟨HN.out,by
     rw [List.take_add_one,hx,List.filter_append,zl4 hnn]
     have hp':x.d = true:=hp
     simp [hp'],rfl,by omega,by have:=HO1.out;unfold OwnI at this;rw [HN.out] at this;exact this,HB1.out⟩
   have e1:((k:Int) == -1) = false:=by rw [beq_eq_false_iff_ne];omega
   clear hx hp hnn HO1 HB1
   go_wp2_with fail
   go_loopw [5,6] (fun i j wr=>zxg w B l g0 cap n i j wr) (fun _ j _=>n - (intOf j).toNat)
   case atStart=>exact ⟨k,k + 1,l,rfl,by go_num,by omega,D0⟩
   case round =>
     clear D0 e1
     obtain ⟨i,j,m,rfl,rfl,hj,D⟩:=hrel
     by_cases hlt:j < n
     · obtain ⟨y,hy⟩:∃ y,l[j]? = some y:=⟨_,List.getElem?_eq_getElem (by rw [HN.out];exact hlt)⟩
       have hmy:m[j]? = some y:=by
         have:=congrArg (fun (q:List Itm)=>q[0]?) D.out.tail
         simpa [List.getElem?_drop,hy] using this
       have zg:=D.out.own.lt g0 rfl
       obtain ⟨c0,c1,c2,c3,c4,c5,c6,c7⟩:=zaw (w:=wr) (i:=y) (b:=g0) (o:=j * 8) (fun a u hu=>by
         have ha:a < 8:=(List.getElem?_eq_some_iff.1 hu).1
         rw [D.out.own.cellAt (j * 8 + a) (by omega),zd6 m j y hmy a ha]
         exact hu)
       have hij:=D.out.lt
       have zg2:=zg.2
       have q0:(0:Int) ≤ (j:Int):=by omega
       have q1:(j:Int) < (n:Int):=by omega
       have q2:(0:Int) ≤ (i:Int):=by omega
       have q3:(i:Int) < (n:Int):=by omega
       have HY:=y37h hy
       have BQ:=y37h ((Below.refl wr.heap.size wr).alloc (Nat.le_refl _) (.cells (iA y) 69))
       have OY:=y37h (Own.new wr (iA y) 69)
       have hBr:B ≤ wr.heap.size:=by omega
       clear hy hmy zg hij
       cases hd:y.d
       · have HD:=y37h hd
         have CC:=fun w'=>y37h (hd ▸ zfu y w')
         clear hd
         go_wp2_with (first | (go_at_call 57;refine (CC _).out.mono ?_;rintro e w8 ⟨rfl,hb8⟩;replace OY:=y37h (OY.out.later hb8);have hbb:=BQ.out.trans (hb8.mono BQ.out.size);have KEY:=y37h (D.out.keep HN.out HY.out HD.out hbb hBr);have hr8:=za8 D.out.own hbb;have TH:Hid (w8.there g0 (i * 8) 8):=y37h (fun a ha=>⟨by rw [hr8.cellAt (i * 8 + a) (by have:=D.out.lt;omega)];rw [List.getElem?_eq_getElem (by rw [zcn,D.out.len];have:=D.out.lt;omega)];rfl,zep hr8 _⟩);clear hr8 hb8 hbb;have l8:=OY.out.cell;have z8:=OY.out.lt) | (refine wpList_store_mid (by rfl) 69 _ _ (by rfl) g0 (i * 8) (iA y) (by rfl) (by rfl) (TH.out) (by kernel_rfl) (by simp [Value.oneCell']) ?_;revert KEY;generalize World.setCells _ _ _ _ = W9;intro KEY;clear l8 z8) | fail)
         go_roundw
         case rel=>exact ⟨i + 1,j + 1,_,by go_num,by go_num,by omega,KEY⟩
         case measure=>simp [intOf];omega
       · have HD:=y37h hd
         have CC:=fun w'=>y37h (hd ▸ zfu y w')
         clear hd
         go_wp2_with (first | (go_at_call 57;refine (CC _).out.mono ?_;rintro e w8 ⟨rfl,hb8⟩) | fail)
         go_roundw
         case rel=>exact ⟨i,j + 1,m,rfl,by go_num,by omega,y37h (D.out.skip HY.out HD.out (BQ.out.trans (hb8.mono BQ.out.size)) hBr)⟩
         case measure=>simp [intOf];omega
     · obtain rfl:j = n:=by omega
       have hij:=D.out.lt
       have hown:=D.out.own
       obtain ⟨zs,hz,hcl⟩:=zlf wr 41 69 0 (iV Itm.zero) Tryz.underlying41 zxa 8 (by rfl) (by omega) (by decide) g0 (i * 8) (j - i) (cap - i) (by omega) (fun a ha=>by rw [hown.cellAt (i * 8 + a) (by omega),List.getElem?_eq_getElem (by rw [zcn,D.out.len];omega)];rfl) (fun a ha=>zep hown _)
       have FIN:=y37h (D.out.fin HN.out HOK.out hz)
       have q2:(0:Int) ≤ (i:Int):=by omega
       have q3:(i:Int) ≤ (j:Int):=by omega
       have q4:(i:Int) ≤ (cap:Int):=by omega
       clear hown D
       go_wp2_with fail
       go_ret
       exact ⟨_,rfl,FIN.out⟩
 · have e1:((-1:Int) == -1) = true:=by rfl
   go_wp2_with fail
   go_ret
   exact ⟨.slice oa n cap,rfl,(zl4 hnn).symm ▸ HO1.out.row HOK.out,HB1.out⟩
theorem zey (s:St) (fv sv ov kv:Value) (w:World) (hS:StW w s fv sv ov kv) (hlen:s.store.length ≤ 1000) :
   Calls Tryz.prog 21 #[stV s fv sv ov kv] w fun e w'=>∃ v',e = .returned v' ∧ Row 8 ic w' (zhg s) v' ∧ Below w.heap.size w w':=by
 have HOK:=y37h hS.ls.oks
 obtain ⟨of_,cf,rfl⟩:=zam hS.lf
 obtain ⟨os,cs,rfl⟩:=hS.ls.val
 obtain ⟨oo,co,rfl⟩:=hS.lo.val
 obtain ⟨ok,ck,rfl⟩:=hS.lk.val
 have BE:=y37h ((Below.refl w.heap.size w).alloc (Nat.le_refl _) (.cells (stA s (.slice of_ s.f.kids.length cf) (.slice os s.store.length cs) (.slice oo s.out.length co) (.slice ok s.k.l.length ck)) 43))
 have CI:=y37h (zeh s.store (.slice os s.store.length cs) _ (hS.ls.later BE.out) (by omega))
 clear hS
 go_enter Tryz.func21,Tryz.ntmps21
 go_wp2_with fail
 refine CI.out.mono ?_
 rintro e w1 ⟨v1,rfl,ho,hb⟩
 replace BE:=y37h (BE.out.trans (hb.mono BE.out.size))
 have DD:=y37h (zk5 s.store v1 _ w1 (ho.mono (by simp)) (Nat.le_trans (Nat.le_refl w.heap.size) BE.out.size) HOK.out (by omega))
 clear ho hb
 go_wp2_with fail
 refine DD.out.mono ?_
 rintro e w2 ⟨v2,rfl,hr,hb⟩
 go_wp2_with fail
 go_ret
 exact ⟨_,rfl,hr,BE.out.trans hb⟩
end Go.Proofs.YthnllikalobmeaaGreat
