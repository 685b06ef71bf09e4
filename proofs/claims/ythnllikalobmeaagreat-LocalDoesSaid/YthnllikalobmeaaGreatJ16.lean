/- Joined: RefSt2, Zero, RefFits, Same. -/
import Derived.Test.YthnllikalobmeaaGreatJ15
import Derived.Test.YthnllikalobmeaaGreatJ12
import Derived.Deep.CutBlock
import Derived.Deep.DeepCutAuto
namespace Go.Proofs.YthnllikalobmeaaGreat
set_option linter.unusedVariables false
set_option linter.unusedSimpArgs false
set_option maxRecDepth 100000
set_option maxHeartbeats 8000000
open Go.RowKit
theorem y16h {p:Prop} (h:p):Hid p:=Lib.hid h
def AllL {α:Type} (p:α → Bool) (l:List α) (len:Nat) (X:Array Value) (w:World) (iv:Value) (wr:World):Prop :=
 ∃ k:Nat,k ≤ len ∧ iv = .int .i64 k ∧ Hid (∀ j f,j < k → l[j]? = some f → p f = true) ∧ Hid (MkS w X wr)
theorem zhu {α:Type} {p:α → Bool} {l:List α} {k:Nat} {f:α} (h:∀ j f,j < k → l[j]? = some f → p f = true) (hf:l[k]? = some f) (hp:p f = true):∀ j f,j < k + 1 → l[j]? = some f → p f = true:=by
 intro j g hj hg
 by_cases e:j = k
 · subst e;rw [hf] at hg;cases hg;exact hp
 · exact h j g (by omega) hg
theorem zk4 (K:Kn) (r count:Int) (v:Value) (w:World) (hR:FrW w K.l v) :
   Calls Tryz.prog 44 #[knV K.star v,.int .i64 r,.int .i64 count] w fun e w'=>e = .returned (.bool (beyS K r count)) ∧ Below w.heap.size w w':=by
 obtain ⟨A,l⟩:=K
 simp only at hR ⊢
 obtain ⟨U,oa,cap,b0,o,rfl,hr⟩:=hR
 have HR:=y16h hr
 have hcap:=hr.len
 have hmax:=hr.max
 unfold maxLen at hmax
 clear hr
 have HE:=y16h (show beyS ⟨A,l⟩ r count = (decide (count < cntV A r) || l.any fun q=>decide (count < cntV q.v r)) from rfl)
 generalize beyS ⟨A,l⟩ r count = res at *
 generalize hn:l.length = len at *
 have HN:=y16h hn
 clear hn
 have HI0:=y16h (show MkS w (knA A (.slice oa len cap)) (w.alloc (.cells (knA A (.slice oa len cap)) 31)) from ⟨Has.new w _ _,(Below.refl _ _).alloc (Nat.le_refl _) _⟩)
 have C:=fun w'=>y16h (zf8 A r w')
 have hq:∃ q,q = cntV A r:=⟨_,rfl⟩
 obtain ⟨q,hq⟩:=hq
 rw [← hq] at C HE
 clear hq
 by_cases hlt0:count < q
 · have E:=y16h (show res = true by rw [HE.out,decide_eq_true hlt0];rfl)
   have g0:decide (count < q) = true:=decide_eq_true hlt0
   clear hlt0
   go_enter Tryz.func44,Tryz.ntmps44
   go_wp2_with (first | (go_at_call 94;refine (C _).out.mono ?_;rintro e w2 ⟨rfl,hb2⟩) | fail)
   go_ret
   exact ⟨zaa E.out.symm,(HI0.out.later hb2).bel⟩
 have HE2:=y16h (show res = l.any fun q=>decide (count < cntV q.v r) by rw [HE.out,decide_eq_false hlt0];rfl)
 have g0:decide (count < q) = false:=decide_eq_false hlt0
 clear HE hlt0
 go_enter Tryz.func44,Tryz.ntmps44
 go_wp2_with (first | (go_at_call 94;refine (C _).out.mono ?_;rintro e w2 ⟨rfl,hb2⟩;have HI2:=y16h (HI0.out.later hb2)) | fail)
 clear hb2 HI0 C
 go_loopw [7] (fun iv wr=>AllL (fun q=>!decide (count < cntV q.v r)) l len (knA A (.slice oa len cap)) w iv wr) (fun iv _=>len - (intOf iv).toNat)
 case atStart=>exact ⟨0,Nat.zero_le _,rfl,fun j f hj=>absurd hj (by omega),HI2⟩
 case round =>
   clear HI2 g0
   obtain ⟨k,hk,rfl,HA,HS⟩:=hrel
   have l1:=HS.out.o1.cell
   have z1:=HS.out.o1.lt
   by_cases hlt:k < len
   · obtain ⟨f,hf⟩:∃ f,l[k]? = some f:=⟨_,List.getElem?_eq_getElem (by rw [HN.out];exact hlt)⟩
     obtain ⟨rfl,hb0⟩:=HR.out.at0 (by rw [HN.out];omega)
     obtain ⟨c0,c1,c2,c3,c4,c5,c6,c7,c8⟩:=za6 (w:=wr) (fun j z hz=>(HS.out.bel.cell (p:=⟨b0,o + k * 9 + j,none⟩) hb0).trans (HR.out.cell k f hf j z hz))
     have zb:=Nat.lt_of_lt_of_le hb0 HS.out.bel.size
     clear c0
     have C:=fun w'=>y16h (zf8 f.v r w')
     have HF:=y16h hf
     clear hf
     have k0:(0:Int) ≤ (k:Int):=by omega
     have k1:(k:Int) < (len:Int):=by omega
     have hx:∃ x,x = cntV f.v r:=⟨_,rfl⟩
     obtain ⟨x,hx⟩:=hx
     rw [← hx] at C
     have HX:=y16h hx
     clear hx
     by_cases hc:count < x
     · have E:=y16h (show res = true by
         rw [HE2.out,List.any_eq_true]
         exact ⟨f,List.mem_of_getElem? HF.out,by rw [← HX.out];exact decide_eq_true hc⟩)
       have g1:decide (count < x) = true:=decide_eq_true hc
       clear hc
       go_wp2_with (first | (go_at_call 94;refine (C _).out.mono ?_;rintro e w2 ⟨rfl,hb2⟩) | fail)
       go_ret
       exact ⟨zaa E.out.symm,(HS.out.later hb2).bel⟩
     · have g1:decide (count < x) = false:=decide_eq_false hc
       have HN2:=y16h (zhu HA.out HF.out (by rw [← HX.out,g1];rfl))
       clear hc
       go_wp2_with (first | (go_at_call 94;refine (C _).out.mono ?_;rintro e w2 ⟨rfl,hb2⟩;have HS7:=y16h (HS.out.later hb2);clear hb2) | fail)
       go_roundw
       case rel=>exact ⟨k + 1,by omega,by go_num,HN2,HS7⟩
       case measure=>simp [intOf];omega
   · have e:len = k:=by omega
     subst e
     have E:=y16h (show res = false by
       rw [HE2.out,List.any_eq_false]
       intro f hf
       obtain ⟨j,hj,e⟩:=List.mem_iff_getElem.1 hf
       have:=HA.out j f (by have:=HN.out;omega) (by rw [List.getElem?_eq_getElem hj,e])
       simpa using this)
     go_wp2_with fail
     go_ret
     exact ⟨zaa E.out.symm,HS.out.bel⟩
theorem zgn (s:St) (fv sv ov kv:Value) (l:List Itm) (v:Value) (want:Bool) (w:World) (hS:StW w s fv sv ov kv) (hR:Row 8 ic w l v) (hf:s.f.size ≤ 1000) :
   Calls Tryz.prog 43 #[stV s fv sv ov kv,v,.bool want] w fun e w'=>e = .returned (.bool (zc4 s l want)) ∧ Below w.heap.size w w':=by
 obtain ⟨oa,cap,b,o,rfl,hr⟩:=hR
 have HR:=y16h hr
 have hcap:=hr.len
 have hmax:=hr.max
 unfold maxLen at hmax
 clear hr
 have HE:=y16h (show zc4 s l want = l.all (zfp s want) from rfl)
 generalize zc4 s l want = res at *
 generalize hn:l.length = len at *
 have HN:=y16h hn
 clear hn
 have HI0:=y16h (show MkS w (stA s fv sv ov kv) (w.alloc (.cells (stA s fv sv ov kv) 43)) from ⟨Has.new w _ _,(Below.refl _ _).alloc (Nat.le_refl _) _⟩)
 have HW:=y16h hS
 have HF0:=y16h hf
 clear hS hf
 go_enter Tryz.func43,Tryz.ntmps43
 go_wp2_with fail
 go_loopw [7] (fun iv wr=>AllL (zfp s want) l len (stA s fv sv ov kv) w iv wr) (fun iv _=>len - (intOf iv).toNat)
 case atStart=>exact ⟨0,Nat.zero_le _,rfl,fun j f hj=>absurd hj (by omega),HI0⟩
 case round =>
   clear HI0
   obtain ⟨k,hk,rfl,HA,HS⟩:=hrel
   have l1:=HS.out.o1.cell
   have z1:=HS.out.o1.lt
   by_cases hlt:k < len
   · obtain ⟨i,hf⟩:∃ f,l[k]? = some f:=⟨_,List.getElem?_eq_getElem (by rw [HN.out];exact hlt)⟩
     obtain ⟨rfl,hb0⟩:=HR.out.at0 (by rw [HN.out];omega)
     have HF:=y16h hf
     clear hf
     have k0:(0:Int) ≤ (k:Int):=by omega
     have k1:(k:Int) < (len:Int):=by omega
     have hid:=(HR.out.ok i (List.mem_of_getElem? HF.out)).1
     have HC:=y16h (fun (wx:World) (hb:Below w.heap.size w wx)=>zav (w:=wx) (fun j z hz=>(hb.cell (p:=⟨b,o + k * 8 + j,none⟩) hb0).trans (HR.out.cell k i HF.out j z hz)))
     have HID:=y16h hid
     have HB0:=y16h hb0
     clear hid
     obtain ⟨c0,c1,c2,c3,c4,c5,c6,c7⟩:=HC.out wr HS.out.bel
     have LA:=fun dd os q=>HS.out.o1.regrown dd os q
     have r0:=fun dd os=>cell_regrown c0 dd os
     have r1:=fun dd os=>cell_regrown c1 dd os
     have r2:=fun dd os=>cell_regrown c2 dd os
     have r3:=fun dd os=>cell_regrown c3 dd os
     have r4:=fun dd os=>cell_regrown c4 dd os
     have r5:=fun dd os=>cell_regrown c5 dd os
     have r6:=fun dd os=>cell_regrown c6 dd os
     have r7:=fun dd os=>cell_regrown c7 dd os
     have m1:=fun dd os=>y16h (Calls.regrown_of (zkp i HID.out s.f fv (Sort.grow (redrawn wr dd) os) (((HW.out.lf.later HS.out.bel (Nat.le_refl _))).later (below_regrown wr dd os) (Nat.le_refl _)) HF0.out))
     clear c0 c1 c2 c3 c4 c5 c6 c7
     generalize hq1:hasT s.f i = x1 at *
     have HQ1:=y16h hq1
     clear hq1
     go_upto_region 4 with fail
     refine wp_region_quiet_below (by kernel_rfl) (by kernel_rfl) ?_
     repeat (first | go_big_quiet_step ((with_reducible exact (m1 _ _).out)) | quiet_step (with_reducible exact (m1 _ _).out))
     refine wpQuiet_nil ?_
     intro w7 hw'
     have hb':=y16h (zac hw')
     clear hw' m1 LA r0 r1 r2 r3 r4 r5 r6 r7 l1
     have HS7:=y16h (HS.out.later hb'.out)
     have zz:w.heap.size < w7.heap.size:=HS7.out.o1.lt
     clear hb'
     obtain ⟨c0,c1,c2,c3,c4,c5,c6,c7⟩:=HC.out w7 HS7.out.bel
     have LA:=fun dd os q=>HS7.out.o1.regrown dd os q
     have r0:=fun dd os=>cell_regrown c0 dd os
     have r1:=fun dd os=>cell_regrown c1 dd os
     have r2:=fun dd os=>cell_regrown c2 dd os
     have m2:=fun dd os=>y16h (Calls.regrown_of (znh s.k i.id i.r i.c kv (Sort.grow (redrawn w7 dd) os) (((HW.out.lk.later HS7.out.bel (Nat.le_refl _))).later (below_regrown w7 dd os) (Nat.le_refl _))))
     clear c0 c1 c2 c3 c4 c5 c6 c7
     generalize hq2:hasK s.k i.id i.r i.c = x2 at *
     have HQ2:=y16h hq2
     clear hq2
     go_upto_region 5 with fail
     refine wp_region_quiet_below (by kernel_rfl) (by kernel_rfl) ?_
     repeat (first | go_big_quiet_step ((with_reducible exact (m2 _ _).out)) | quiet_step (with_reducible exact (m2 _ _).out))
     refine wpQuiet_nil ?_
     intro w8 hw'
     have hb':=y16h (zac hw')
     clear hw' m2 LA r0 r1 r2
     have HS8:=y16h (HS7.out.later hb'.out)
     clear hb'
     obtain ⟨c0,c1,c2,c3,c4,c5,c6,c7⟩:=HC.out w8 HS8.out.bel
     have LA:=fun dd os q=>HS8.out.o1.regrown dd os q
     have r3:=fun dd os=>cell_regrown c3 dd os
     have z8:=HS8.out.o1.lt
     clear c0 c1 c2 c3 c4 c5 c6 c7 z1 zz
     have HI:=y16h (show zfp s want i = ((x1 == want) && (x2 && decide (i.st ≤ s.clock))) by unfold zfp;rw [HQ1.out,HQ2.out])
     cases ht:decide (s.clock < i.st)
     all_goals
       cases x1
       all_goals
         cases x2
         all_goals
           cases want
           all_goals
             go_upto_region 6 with fail
             refine wp_region_quiet_below (by kernel_rfl) (by kernel_rfl) ?_
             repeat (first | go_big_quiet_step (fail) | quiet_step (fail))
             refine wpQuiet_nil ?_
             intro w9 hw'
             have hb':=y16h (zac hw')
             clear hw' LA r3
             have HS9:=y16h (HS8.out.later hb'.out)
             clear hb'
             go_wp2_with fail
             first
               | (go_roundw
                  case rel=>exact ⟨k + 1,by omega,by go_num,y16h (zhu HA.out HF.out (by rw [HI.out];simp at ht ⊢;omega)),HS9⟩
                  case measure=>simp [intOf];omega)
               | (go_ret
                  exact ⟨zaa (by
                    rw [HE.out]
                    refine (zdt HF.out ?_).symm
                    rw [HI.out]
                    simp at ht ⊢ <;> omega),HS9.out.bel⟩)
   · have e:len = k:=by omega
     subst e
     have E:=y16h (show res = true by
       rw [HE.out]
       exact zj6 fun j f hj hf=>HA.out j f (by have:=HN.out;omega) hf)
     go_wp2_with fail
     go_ret
     exact ⟨zaa E.out.symm,HS.out.bel⟩
def zbx (bt bn ba bk:Bool) (t:ByteArray) (n:Int) (x y len:Nat):Bool :=
 (bt || decide (t.toList = [])) && ((bn || decide (n = 0)) && ((ba || (feq x 0 && feq y 0)) && (bk || decide (len = 0))))
theorem zri (k:Nat):decide ((0:Int) < (k:Int)) = !decide (k = 0):=by
 rw [Bool.eq_iff_iff];simp;omega
theorem ztk (bt bn ba bk:Bool) (op:Int) (t:ByteArray) (n:Int) (x y:Nat) (oa:Option Addr) (len cap:Nat) (w:World) :
   Calls Tryz.prog 133 #[.agg #[.int .i64 op,.string t,.int .i64 n,.complex .f64 x y,.slice oa len cap],.bool bt,.bool bn,.bool ba,.bool bk] w fun e w'=>e = .returned (.bool (zbx bt bn ba bk t n x y len)) ∧ Below w.heap.size w w':=by
 have f1:∀ x y,(FloatKind.f64.format.order x y == some .eq) = feq x y:=fun _ _=>rfl
 cases bt <;> cases bn <;> cases ba <;> cases bk
 all_goals
   go_enter Tryz.func133,Tryz.ntmps133
   go_wp2
   all_goals
     go_ret
     refine ⟨zaa ?_,(Below.refl _ _).alloc (Nat.le_refl _) _⟩
     first
       | (simp_all [zbx,zri];done)
       | (have hl0:¬ len = 0:=by omega
          simp_all [zbx,zri])
theorem zde:feq 0 0 = true:=by decide +kernel
theorem zco {a b:Bool} (h:a = b):Value.bool a = .bool b:=by rw [h]
theorem zxi (t:ByteArray) (n:Int) (x y len:Nat):Pr.partB 1 t n x y len = zbx false false false false t n x y len:=by
 simp [Pr.partB,Pr.bareB,zbx,inW,zde]
 try ac_rfl
theorem zxj (t:ByteArray) (n:Int) (x y len:Nat):Pr.partB 2 t n x y len = zbx false false false false t n x y len:=by
 simp [Pr.partB,Pr.bareB,zbx,inW,zde]
 try ac_rfl
theorem zxk (t:ByteArray) (n:Int) (x y len:Nat):Pr.partB 3 t n x y len = (zbx true false false false t n x y len && txtB t):=by
 simp [Pr.partB,Pr.bareB,zbx,inW,zde]
 try ac_rfl
theorem zxl (t:ByteArray) (n:Int) (x y len:Nat):Pr.partB 4 t n x y len = (zbx true false false false t n x y len && txtB t):=by
 simp [Pr.partB,Pr.bareB,zbx,inW,zde]
 try ac_rfl
theorem zxm (t:ByteArray) (n:Int) (x y len:Nat):Pr.partB 5 t n x y len = (zbx false true false false t n x y len && inW n (-1000000) 1000000):=by
 simp [Pr.partB,Pr.bareB,zbx,inW,zde]
 try ac_rfl
theorem zxn (t:ByteArray) (n:Int) (x y len:Nat):Pr.partB 6 t n x y len = (zbx false true false false t n x y len && inW n (-1000000) 1000000):=by
 simp [Pr.partB,Pr.bareB,zbx,inW,zde]
 try ac_rfl
theorem zxo (t:ByteArray) (n:Int) (x y len:Nat):Pr.partB 7 t n x y len = (zbx false true true false t n x y len && (mayB x y && inW n 0 8000000)):=by
 simp [Pr.partB,Pr.bareB,zbx,inW,zde]
 try ac_rfl
theorem zxp (t:ByteArray) (n:Int) (x y len:Nat):Pr.partB 8 t n x y len = zbx false false false true t n x y len:=by
 simp [Pr.partB,Pr.bareB,zbx,inW,zde]
 try ac_rfl
theorem zxq (t:ByteArray) (n:Int) (x y len:Nat):Pr.partB 9 t n x y len = zbx false false false true t n x y len:=by
 simp [Pr.partB,Pr.bareB,zbx,inW,zde]
 try ac_rfl
theorem zve (t:ByteArray) (n:Int) (x y len:Nat):Pr.partB 10 t n x y len = (zbx false false false true t n x y len && decide (len = 1)):=by
 simp [Pr.partB,Pr.bareB,zbx,inW,zde]
 try ac_rfl
def zz2 (l:List Pr) (len:Nat) (b0:Bool) (w0:World) (ok i:Value) (wr:World):Prop :=
 ∃ (k:Nat) (a:Bool),k ≤ len ∧ i = .int .i64 k ∧ ok = .bool a ∧ Hid (a = (b0 && Pr.alls (l.take k))) ∧ Below w0.heap.size w0 wr
theorem zng (p:Pr):∀ (v:Value) (w:World),LP w p v → p.size ≤ 1000 →
   Calls Tryz.prog 86 #[.agg #[.int .i64 p.op,.string p.text,.int .i64 p.n,.complex .f64 p.x p.y,v]] w fun e w'=>e = .returned (.bool p.all) ∧ Below w.heap.size w w':=by
 induction p using Pr.ind with
 | h op t n x y kids ih =>
   intro v w hL hsz
   obtain ⟨oa,cap,b,o,V,rfl,ht,hl,hc,hn,hcell,hrec⟩:=za9 hL
   simp only [Pr.kids_node,Pr.text_node,Pr.op_node,Pr.n_node,Pr.x_node,Pr.y_node,Pr.size] at *
   have HT:=fun w=>y16h (zho t w ht)
   have HM:=fun w=>y16h (zeg x y w)
   unfold maxLen at hc
   have h1000:=Pr.len_le_sizes kids
   have HC:=y16h hcell
   have HR:=y16h hrec
   have HN:=y16h hn
   have HI:=y16h ih
   clear hL hcell hrec hn ih
   generalize hlen:kids.length = len at *
   have HLEN:=y16h hlen
   clear hlen
   go_enter Tryz.func86,Tryz.ntmps86
   go_upto_block 0 with (first
     | (go_at_call 131;refine (HT _).out.mono ?_;rintro e w' ⟨rfl,rfl⟩)
     | (go_at_call 132;refine (HM _).out.mono ?_;rintro e w' ⟨rfl,rfl⟩))
   go_cut [3,5] (fun s3 _ wx=>s3 = .bool (Pr.partB op t n x y len) ∧ Hid (Below w.heap.size w wx ∧ Has wx w.heap.size #[.int .i64 op,.string t,.int .i64 n,.complex .f64 x y,.slice oa len cap]))
   case first =>
     clear HC HR HN HI HT HM HLEN
     have Z:=fun bt bn ba bk op n w=>y16h (ztk bt bn ba bk op t n x y oa len cap w)
     have G:=y16h (Own.new w #[.int .i64 op,.string t,.int .i64 n,.complex .f64 x y,.slice oa len cap] 40)
     have hop:op = 1 ∨ op = 2 ∨ op = 3 ∨ op = 4 ∨ op = 5 ∨ op = 6 ∨ op = 7 ∨ op = 8 ∨ op = 9 ∨ op = 10 ∨ (op ≠ 1 ∧ op ≠ 2 ∧ op ≠ 3 ∧ op ≠ 4 ∧ op ≠ 5 ∧ op ≠ 6 ∧ op ≠ 7 ∧ op ≠ 8 ∧ op ≠ 9 ∧ op ≠ 10):=by omega
     rcases hop with rfl | rfl | rfl | rfl | rfl | rfl | rfl | rfl | rfl | rfl | ⟨n1,n2,n3,n4,n5,n6,n7,n8,n9,n10⟩
     · have E:=y16h (zxi t n x y len)
       go_wp2_with (go_at_call 133;refine (Z _ _ _ _ _ _ _).out.mono ?_;rintro e w' ⟨rfl,hb⟩;have hg:=(G.out.later hb).cell)
       all_goals
         go_meet
         refine ⟨zco ?_,zai hb,(G.out.later hb).has⟩
         rw [E.out]
         try (first | (simp_all [inW];done) | (simp_all [inW];omega))
     · have E:=y16h (zxj t n x y len)
       go_wp2_with (go_at_call 133;refine (Z _ _ _ _ _ _ _).out.mono ?_;rintro e w' ⟨rfl,hb⟩;have hg:=(G.out.later hb).cell)
       all_goals
         go_meet
         refine ⟨zco ?_,zai hb,(G.out.later hb).has⟩
         rw [E.out]
         try (first | (simp_all [inW];done) | (simp_all [inW];omega))
     · have E:=y16h (zxk t n x y len)
       go_wp2_with (go_at_call 133;refine (Z _ _ _ _ _ _ _).out.mono ?_;rintro e w' ⟨rfl,hb⟩;have hg:=(G.out.later hb).cell)
       all_goals
         go_meet
         refine ⟨zco ?_,zai hb,(G.out.later hb).has⟩
         rw [E.out]
         try (first | (simp_all [inW];done) | (simp_all [inW];omega))
     · have E:=y16h (zxl t n x y len)
       go_wp2_with (go_at_call 133;refine (Z _ _ _ _ _ _ _).out.mono ?_;rintro e w' ⟨rfl,hb⟩;have hg:=(G.out.later hb).cell)
       all_goals
         go_meet
         refine ⟨zco ?_,zai hb,(G.out.later hb).has⟩
         rw [E.out]
         try (first | (simp_all [inW];done) | (simp_all [inW];omega))
     · have E:=y16h (zxm t n x y len)
       go_wp2_with (go_at_call 133;refine (Z _ _ _ _ _ _ _).out.mono ?_;rintro e w' ⟨rfl,hb⟩;have hg:=(G.out.later hb).cell)
       all_goals
         go_meet
         refine ⟨zco ?_,zai hb,(G.out.later hb).has⟩
         rw [E.out]
         try (first | (simp_all [inW];done) | (simp_all [inW];omega))
     · have E:=y16h (zxn t n x y len)
       go_wp2_with (go_at_call 133;refine (Z _ _ _ _ _ _ _).out.mono ?_;rintro e w' ⟨rfl,hb⟩;have hg:=(G.out.later hb).cell)
       all_goals
         go_meet
         refine ⟨zco ?_,zai hb,(G.out.later hb).has⟩
         rw [E.out]
         try (first | (simp_all [inW];done) | (simp_all [inW];omega))
     · have E:=y16h (zxo t n x y len)
       go_wp2_with (go_at_call 133;refine (Z _ _ _ _ _ _ _).out.mono ?_;rintro e w' ⟨rfl,hb⟩;have hg:=(G.out.later hb).cell)
       all_goals
         go_meet
         refine ⟨zco ?_,zai hb,(G.out.later hb).has⟩
         rw [E.out]
         try (first | (simp_all [inW];done) | (simp_all [inW];omega))
     · have E:=y16h (zxp t n x y len)
       go_wp2_with (go_at_call 133;refine (Z _ _ _ _ _ _ _).out.mono ?_;rintro e w' ⟨rfl,hb⟩;have hg:=(G.out.later hb).cell)
       all_goals
         go_meet
         refine ⟨zco ?_,zai hb,(G.out.later hb).has⟩
         rw [E.out]
         try (first | (simp_all [inW];done) | (simp_all [inW];omega))
     · have E:=y16h (zxq t n x y len)
       go_wp2_with (go_at_call 133;refine (Z _ _ _ _ _ _ _).out.mono ?_;rintro e w' ⟨rfl,hb⟩;have hg:=(G.out.later hb).cell)
       all_goals
         go_meet
         refine ⟨zco ?_,zai hb,(G.out.later hb).has⟩
         rw [E.out]
         try (first | (simp_all [inW];done) | (simp_all [inW];omega))
     · have E:=y16h (zve t n x y len)
       have f2:=zrh len
       go_wp2_with (go_at_call 133;refine (Z _ _ _ _ _ _ _).out.mono ?_;rintro e w' ⟨rfl,hb⟩;have hg:=(G.out.later hb).cell)
       all_goals
         go_meet
         refine ⟨zco ?_,zai hb,(G.out.later hb).has⟩
         rw [E.out]
         try (first | (simp_all [inW];done) | (simp_all [inW];omega))
     · have E:=y16h (show Pr.partB op t n x y len = false by simp [Pr.partB,n1,n2,n3,n4,n5,n6,n7,n8,n9,n10])
       go_wp2_with fail
       all_goals
         go_meet
         exact ⟨zco E.out.symm,(Below.refl _ _).alloc (Nat.le_refl _) _,G.out.has⟩
   case rest =>
     obtain ⟨rfl,hh⟩:=hcut
     obtain ⟨hB,g0⟩:=Hid.out hh
     have HBW:=y16h hB
     clear hh hB HT HM
     generalize hb0:Pr.partB op t n x y len = b0
     have HP:=y16h hb0
     clear hb0
     go_wp2_with fail
     go_loopw [3,6] (fun ok i wr=>zz2 kids len b0 wc ok i wr) (fun _ i _=>len - (intOf i).toNat)
     case atStart=>exact ⟨0,b0,Nat.zero_le _,rfl,rfl,by simp [Hid,Pr.alls],Below.refl _ _⟩
     case round =>
       obtain ⟨k,a,hk,rfl,rfl,HA,hb⟩:=hrel
       have g:=g0.below hb g0.lt
       by_cases hlt:k < len
       · obtain ⟨q,hq⟩:∃ q,kids[k]? = some q:=⟨_,List.getElem?_eq_getElem (by rw [HLEN.out];exact hlt)⟩
         obtain ⟨rfl,hB⟩:=HN.out (by omega)
         obtain ⟨oq,cq,hV⟩:=zal (HR.out k q hq)
         have hbw:Below w.heap.size w wr:=HBW.out.trans (hb.mono HBW.out.size)
         obtain ⟨c0,c1,c2,c3,c4⟩:=zcd (w:=wr) (fun j u hu=>(hbw.cell (p:=⟨b,o + k * 5 + j,none⟩) hB).trans (HC.out k q hq j u hu))
         have L0:=(HR.out k q hq).later hbw (Nat.le_refl _)
         rw [hV] at c4 L0
         have hqs:=Pr.size_mem (List.mem_of_getElem? hq)
         have CC:=y16h (HI.out q (List.mem_of_getElem? hq) (.slice oq q.kids.length cq) wr L0 (by omega))
         have h6:=Pr.alls_take hq
         have HA1:=y16h (show (a && q.all) = (b0 && Pr.alls (kids.take (k + 1))) by rw [h6,HA.out,Bool.and_assoc])
         have HB:=y16h hb
         clear hb hbw hq L0 h6 hV
         generalize q.all = qa at *
         have l:=g.cell
         have z:=g.lt
         clear g
         go_wp2_with (go_at_call 86;refine CC.out.mono ?_;rintro e w' ⟨rfl,hb'⟩)
         all_goals
           go_roundw
           case rel=>exact ⟨k + 1,a && qa,by omega,by go_num,by simp_all,HA1.out,HB.out.trans (hb'.mono HB.out.size)⟩
           case measure=>simp [intOf];omega
       · have HB:=y16h hb
         clear hb
         have l:=g.cell
         have z:=g.lt
         clear g
         have e:k = len:=by omega
         have h7:=HA.out
         rw [Pr.take_all kids (by rw [HLEN.out];omega)] at h7
         have HE:=y16h (show a = (Pr.node op t n x y kids).all by rw [h7];simp only [Pr.all];rw [HLEN.out,HP.out])
         clear h7 e
         go_wp2_with fail
         go_ret
         exact ⟨zaa HE.out,HBW.out.trans (HB.out.mono HBW.out.size)⟩
theorem zep (p:Pr) (v:Value) (w:World) (hL:LP w p v) (hsz:p.size ≤ 1000) :
   Calls Tryz.prog 40 #[.agg #[.int .i64 p.op,.string p.text,.int .i64 p.n,.complex .f64 p.x p.y,v]] w fun e w'=>e = .returned (.bool p.mayB) ∧ Below w.heap.size w w':=by
 obtain ⟨oq,cq,rfl⟩:=zal hL
 have S:=fun w' h=>y16h (znm p (.slice oq p.kids.length cq) w' h hsz)
 have D:=fun w' h=>y16h (zly p (.slice oq p.kids.length cq) w' h hsz)
 have A:=fun w' h=>y16h (zng p (.slice oq p.kids.length cq) w' h hsz)
 have L0:=hL.atAlloc (.cells #[.int .i64 p.op,.string p.text,.int .i64 p.n,.complex .f64 p.x p.y,.slice oq p.kids.length cq] 40)
 have G0:=y16h (Own.new w #[.int .i64 p.op,.string p.text,.int .i64 p.n,.complex .f64 p.x p.y,.slice oq p.kids.length cq] 40)
 have L:=y16h L0
 clear hL L0
 have e:p.mayB = (decide ((p.size:Int) ≤ 30) && (decide ((p.depth:Int) ≤ 6) && p.all)):=rfl
 rw [e]
 clear e
 by_cases h1:(p.size:Int) ≤ 30
 · by_cases h2:(p.depth:Int) ≤ 6
   · rw [decide_eq_true h1,decide_eq_true h2,Bool.true_and,Bool.true_and]
     generalize p.all = pa at *
     go_enter Tryz.func40,Tryz.ntmps40
     go_wp2_with fail
     refine (S _ L.out).out.mono ?_;rintro e w1 ⟨rfl,hb1⟩
     have G1:=y16h (G0.out.later hb1)
     have L1:=y16h (L.out.later hb1 (Nat.le_refl _))
     have B1:=y16h (zai hb1)
     clear hb1
     have l1:=G1.out.cell
     go_wp2_with fail
     refine (D _ L1.out).out.mono ?_;rintro e w2 ⟨rfl,hb2⟩
     have G2:=y16h (G1.out.later hb2)
     have L2:=y16h (L1.out.later hb2 (Nat.le_refl _))
     have B2:=y16h (B1.out.trans (hb2.mono B1.out.size))
     clear hb2 l1
     have l2:=G2.out.cell
     go_wp2_with fail
     refine (A _ L2.out).out.mono ?_;rintro e w3 ⟨rfl,hb3⟩
     go_wp2_with fail
     go_ret
     exact ⟨rfl,B2.out.trans (hb3.mono B2.out.size)⟩
   · rw [decide_eq_true h1,decide_eq_false h2,Bool.true_and,Bool.false_and]
     go_enter Tryz.func40,Tryz.ntmps40
     go_wp2_with fail
     refine (S _ L.out).out.mono ?_;rintro e w1 ⟨rfl,hb1⟩
     have G1:=y16h (G0.out.later hb1)
     have L1:=y16h (L.out.later hb1 (Nat.le_refl _))
     have B1:=y16h (zai hb1)
     clear hb1
     have l1:=G1.out.cell
     go_wp2_with fail
     refine (D _ L1.out).out.mono ?_;rintro e w2 ⟨rfl,hb2⟩
     go_wp2_with fail
     go_ret
     exact ⟨rfl,B1.out.trans (hb2.mono B1.out.size)⟩
 · rw [decide_eq_false h1,Bool.false_and]
   go_enter Tryz.func40,Tryz.ntmps40
   go_wp2_with fail
   refine (S _ L.out).out.mono ?_;rintro e w1 ⟨rfl,hb1⟩
   go_wp2_with fail
   go_ret
   exact ⟨rfl,zai hb1⟩
abbrev LK (w:World) (l:List Pr) (v:Value):Prop:=LP w (.node 0 ⟨#[]⟩ 0 0 0 l) v
theorem zur {w:World} {p:Pr} {v:Value} (h:LP w p v):LK w p.kids v:=by
 cases h with
 | mk op t n x y kids oa cap b o V ht hl hc hn hcell hrec=>exact .mk _ _ _ _ _ kids oa cap b o V (by decide) hl hc hn hcell hrec
def z1p (l m:List Pr) (len:Nat) (w0:World) (i:Value) (wr:World):Prop :=
 ∃ k:Nat,k ≤ len ∧ i = .int .i64 k ∧ Hid (Pr.sames (l.take k) (m.take k) = true) ∧ Below w0.heap.size w0 wr
end Go.Proofs.YthnllikalobmeaaGreat
