/- Joined: ListKM, Far, Left, KBey. -/
import Derived.Test.YthnllikalobmeaaGreatJ16
import Derived.Test.YthnllikalobmeaaGreatJ13
import Derived.Test.YthnllikalobmeaaGreatJ06
import Derived.Test.YthnllikalobmeaaGreatJ10
import Derived.Test.YthnllikalobmeaaGreatJ02
namespace Go.Proofs.YthnllikalobmeaaGreat
set_option linter.unusedVariables false
set_option linter.unusedSimpArgs false
set_option maxRecDepth 100000
set_option maxHeartbeats 8000000
open Go.RowKit
theorem y17h {p:Prop} (h:p):Hid p:=Lib.hid h
theorem mayLB_iff {l:List Itm}:zbc l = true ↔ (∀ i ∈ l,mayT i = true) ∧ zak l:=by
 unfold zbc
 rw [Bool.and_eq_true,zji,List.all_eq_true]
theorem zoj {l:List Itm} {x:Itm} (h:zbc l = true) (hx:mayT x = true):zbc (putI l x) = true:=by
 rw [mayLB_iff] at *
 refine ⟨fun i hi=>?_,zem h.2⟩
 rcases zhf hi with h1 | h1
 · exact h.1 i h1
 · rw [h1];exact hx
theorem zea {l:List Itm} {p:Itm → Bool} (h:zbc l = true):zbc (l.filter p) = true:=by
 rw [mayLB_iff] at *
 exact ⟨fun i hi=>h.1 i (List.mem_filter.1 hi).1,za5 h.2⟩
theorem RowAt.take {sz:Nat} {f:Itm → List Value} {w:World} {l:List Itm} {oa:Option Addr} {cap b o:Nat} (h:RowAt sz f w l oa cap b o) (k:Nat):RowAt sz f w (l.take k) oa cap b o:=by
 refine ⟨by rw [List.length_take];have:=h.len;omega,h.max,fun h0=>h.at0 (by rw [List.length_take] at h0;omega),fun j i hj=>?_,fun i hi=>h.ok i (List.mem_of_mem_take hi)⟩
 rw [List.getElem?_take] at hj
 split at hj
 · exact h.cell j i hj
 · cases hj
theorem Row.take {sz:Nat} {f:Itm → List Value} {w:World} {l:List Itm} {oa:Option Addr} {n cap:Nat} (h:Row sz f w l (.slice oa n cap)) (k:Nat):Row sz f w (l.take k) (.slice oa (l.take k).length cap):=by
 obtain ⟨oa',cap',b,o,e,hr⟩:=h
 cases e
 exact ⟨oa,cap,b,o,rfl,hr.take k⟩
theorem Row.cap {sz:Nat} {f:Itm → List Value} {w:World} {l:List Itm} {oa:Option Addr} {n cap:Nat} (h:Row sz f w l (.slice oa n cap)):l.length ≤ cap ∧ cap ≤ maxLen:=by
 obtain ⟨oa',cap',b,o,e,hr⟩:=h
 cases e
 exact ⟨hr.len,hr.max⟩
theorem zqv (a b c d:Nat) (w:World) :
   Calls Tryz.prog 111 #[.complex .f64 a b,.complex .f64 c d] w fun e w'=>e = .returned (.int .i64 (farV a b c d)) ∧ w = w':=by
 unfold farV
 cases h1:mayB a b
 · have H:=fun x y=>y17h (zcj x y w)
   go_enter Tryz.func111,Tryz.ntmps111
   go_wp2_with (go_at_call 150;refine ((H _ _).out).mono ?_;rw [h1];rintro e w' ⟨rfl,rfl⟩)
   go_ret
   exact ⟨rfl,rfl⟩
 · cases h2:mayB c d
   · have H1:=y17h (zcj a b w)
     have H2:=y17h (zcj c d w)
     go_enter Tryz.func111,Tryz.ntmps111
     go_wp2_with fail
     refine ((H1).out).mono ?_
     rw [h1];rintro e w' ⟨rfl,rfl⟩
     go_wp2_with fail
     refine ((H2).out).mono ?_
     rw [h2];rintro e w' ⟨rfl,rfl⟩
     go_wp2
     go_ret
     exact ⟨rfl,rfl⟩
   · have H1:=y17h (zcj a b w)
     have H2:=y17h (zcj c d w)
     obtain ⟨ia,ib,ba,bb⟩:=ze1 h1
     obtain ⟨ic,id,bc,bd⟩:=ze1 h2
     obtain ⟨re,hre,ire⟩:=Fl.diff_int ia ic (by omega)
     obtain ⟨im,him,iim⟩:=Fl.diff_int ib id (by omega)
     have hs:cSumBits .sub .f64 a b c d = some (re,im):=by
       have e1:floatBits .sub .f64 a c = some re:=hre
       have e2:floatBits .sub .f64 b d = some im:=him
       simp [cSumBits,e1,e2]
     have k1:=run_complex_sum (P:=Tryz.prog) w .sub (.inr rfl) 37 .f64 a b c d re im hs
     have k2:=run_convert_float_int (P:=Tryz.prog) w 22 3 .f64 .i64 re _ (by kernel_rfl) (by kernel_rfl) (Fl.toIntVal_int ire (by omega))
     have k3:=run_convert_float_int (P:=Tryz.prog) w 22 3 .f64 .i64 im _ (by kernel_rfl) (by kernel_rfl) (Fl.toIntVal_int iim (by omega))
     simp only [Bool.and_self,if_true]
     generalize hp:Fl.iv a - Fl.iv c = p at *
     generalize hq:Fl.iv b - Fl.iv d = q at *
     have hp1:-2000 ≤ p:=by omega
     have hp2:p ≤ 2000:=by omega
     have hq1:-2000 ≤ q:=by omega
     have hq2:q ≤ 2000:=by omega
     obtain ⟨sp1,sp2⟩:=zll hp1 hp2
     obtain ⟨sq1,sq2⟩:=zll hq1 hq2
     clear hp hq ia ib ba bb ic id bc bd hre him ire iim hs
     have h1':=y17h h1
     have h2':=y17h h2
     clear h1 h2
     go_enter Tryz.func111,Tryz.ntmps111
     go_wp2_with fail
     refine ((H1).out).mono ?_
     rw [h1'.out];rintro e w' ⟨rfl,rfl⟩
     go_wp2_with fail
     refine ((H2).out).mono ?_
     rw [h2'.out];rintro e w' ⟨rfl,rfl⟩
     go_wp2
     go_ret
     exact ⟨rfl,rfl⟩
theorem zpx (a b c d:Nat) (n:Int) (w:World) :
   Calls Tryz.prog 65 #[.complex .f64 a b,.complex .f64 c d,.int .i64 n] w fun e w'=>e = .returned (.bool (zje a b c d n)) ∧ w = w':=by
 have H:=y17h (zqv a b c d w)
 obtain ⟨h1,h2⟩:=zu6 a b c d
 unfold zje
 generalize farV a b c d = f at *
 by_cases h0:f = -1
 · subst h0
   go_enter Tryz.func65,Tryz.ntmps65
   go_wp2_with (go_at_call 111;refine (H.out).mono ?_;rintro e w' ⟨rfl,rfl⟩)
   go_ret
   exact ⟨rfl,rfl⟩
 · have h3:(f != -1) = true:=by simp [h0]
   have h4:decide (0 ≤ f) = true:=by simp;omega
   rw [h4]
   have h4':0 ≤ f:=by omega
   clear h4 h0
   go_enter Tryz.func65,Tryz.ntmps65
   go_wp2_with (go_at_call 111;refine (H.out).mono ?_;rintro e w' ⟨rfl,rfl⟩)
   go_ret
   exact ⟨by simp,rfl⟩
def zbw (s m:Int):Int:=if s ≤ m then m - s else -1
theorem zrc {s r:Int} (h:0 ≤ r) (h1:zbw s r < 0):r < s:=by
 unfold zbw at h1;split at h1 <;> omega
theorem zrd {s r:Int} (h1:0 ≤ zbw s r):s ≤ r:=by
 unfold zbw at h1;split at h1 <;> omega
def zuu (l:List Pr) (len:Nat) (m:Int) (w0:World) (most i:Value) (wr:World):Prop :=
 ∃ (k:Nat) (r:Int),k ≤ len ∧ i = .int .i64 k ∧ most = .int .i64 r ∧ 0 ≤ r ∧ r ≤ 60 ∧ Hid (r = m - (1 + Pr.sizes (l.take k):Nat)) ∧ Below w0.heap.size w0 wr
theorem zpq (p:Pr):∀ (v:Value) (m:Int) (w:World),LT w p v → -1 ≤ m → m ≤ 60 →
   Calls Tryz.prog 33 #[.agg #[.int .i64 p.op,.string p.text,.int .i64 p.n,.float .f64 p.x,.float .f64 p.y,v],.int .i64 m] w fun e w'=>e = .returned (.int .i64 (zbw p.size m)) ∧ Below w.heap.size w w':=by
 induction p using Pr.ind with
 | h op t n x y kids ih =>
   intro v m w hL h1 h2
   obtain ⟨oa,cap,b,o,V,rfl,ht,hl,hc,hn,hcell,hrec⟩:=zbh hL
   simp only [Pr.kids_node,Pr.text_node,Pr.op_node,Pr.n_node,Pr.x_node,Pr.y_node,Pr.size] at *
   by_cases h0:m ≤ 0
   · have e:zbw (1 + Pr.sizes kids:Nat) m = -1:=by unfold zbw;rw [if_neg (by omega)]
     rw [e]
     clear e
     go_enter Tryz.func33,Tryz.ntmps33
     go_wp2_with fail
     go_ret
     exact ⟨rfl,(Below.refl _ _).alloc (Nat.le_refl _) _⟩
   · unfold maxLen at hc
     have E:=y17h (rfl:zbw (1 + Pr.sizes kids:Nat) m = zbw (1 + Pr.sizes kids:Nat) m)
     have HL:=y17h hL
     have HC:=y17h hcell
     have HR:=y17h hrec
     have HN:=y17h hn
     have HI:=y17h ih
     clear hL hcell hrec hn ih
     generalize hlen:kids.length = len at *
     have HLEN:=y17h hlen
     clear hlen
     go_enter Tryz.func33,Tryz.ntmps33
     go_wp2_with fail
     go_loopw [1,5] (fun most i wr=>zuu kids len m (w.alloc (.cells #[.int .i64 op,.string t,.int .i64 n,.float .f64 x,.float .f64 y,.slice oa len cap] 25)) most i wr) (fun _ i _=>len - (intOf i).toNat)
     case atStart=>exact ⟨0,m - 1,Nat.zero_le _,rfl,rfl,by omega,by omega,by simp [Hid,Pr.sizes],Below.refl _ _⟩
     case round =>
       obtain ⟨k,r,hk,rfl,rfl,hr0,hr1,HRr,hb⟩:=hrel
       have g:=(Has.new w #[.int .i64 op,.string t,.int .i64 n,.float .f64 x,.float .f64 y,.slice oa len cap] 25).below hb (by simp)
       by_cases hlt:k < len
       · obtain ⟨q,hq⟩:∃ q,kids[k]? = some q:=⟨_,List.getElem?_eq_getElem (by rw [HLEN.out];exact hlt)⟩
         obtain ⟨rfl,hS⟩:=HN.out (by omega)
         have hbw:Below w.heap.size w wr:=((Below.refl _ _).alloc (Nat.le_refl _) _).trans (hb.mono (by simp))
         obtain ⟨c0,c1,c2,c3,c4,c5⟩:=zm6 (w:=wr) (fun j u hu=>(hbw.cell (p:=⟨b,o + k * 6 + j,none⟩) hS).trans (HC.out k q hq j u hu))
         have CC:=HI.out q (List.mem_of_getElem? hq) (V k) r wr ((HR.out k q hq).later hbw (Nat.le_refl _)) (by omega) (by omega)
         have HB:=y17h hb
         have HQ:=y17h hq
         clear hb hbw hq
         have l:=g.cell
         have z:=g.lt
         clear g
         go_wp2_with (go_at_call 33;refine CC.mono ?_;rintro e w' ⟨rfl,hb'⟩)
         · have hneg:zbw q.size r < 0:=by assumption
           have hbig:r < (q.size:Int):=zrc hr0 hneg
           have h3:=Pr.sizes_take HQ.out
           have h4:=Pr.sizes_take_le kids (k + 1)
           have h5:=HRr.out
           go_ret
           exact ⟨zbu (by unfold zbw;rw [if_neg (by omega)]),zal (HB.out.trans (hb'.mono HB.out.size))⟩
         · have hneg:0 ≤ zbw q.size r:=by assumption
           have hbig:(q.size:Int) ≤ r:=zrd hneg
           have h3:=Pr.sizes_take HQ.out
           have h5:=HRr.out
           have h6:=Pr.size_pos q
           have h7:zbw q.size r = r - q.size:=if_pos hbig
           go_roundw
           case rel=>exact ⟨k + 1,r - q.size,by omega,by go_num,by rw [h7],by omega,by omega,by unfold Hid;rw [h3];omega,HB.out.trans (hb'.mono HB.out.size)⟩
           case measure=>simp [intOf];omega
       · have HB:=y17h hb
         clear hb
         have l:=g.cell
         have z:=g.lt
         clear g
         have e:k = len:=by omega
         have h5:=HRr.out
         rw [Pr.take_all kids (by rw [HLEN.out];omega)] at h5
         have H5:=y17h h5
         clear h5 e
         go_wp2_with fail
         go_ret
         have h5:=H5.out
         exact ⟨zbu (by unfold zbw;rw [if_pos (by omega)];exact h5),zal HB.out⟩
theorem zhu (p:Pr) (v:Value) (w:World) (hL:LT w p v) :
   Calls Tryz.prog 9 #[.agg #[.int .i64 p.op,.string p.text,.int .i64 p.n,.float .f64 p.x,.float .f64 p.y,v]] w fun e w'=>e = .returned (.int .i64 (if p.size ≤ 60 then 1 else 0)) ∧ Below w.heap.size w w':=by
 have H:=fun w' h=>y17h (zpq p v 60 w' h (by omega) (by omega))
 have L1:=fun o=>y17h (hL.atAlloc o)
 clear hL
 by_cases h:p.size ≤ 60
 · have h1:zbw p.size 60 = 60 - p.size:=if_pos (by omega)
   have h2:¬ (zbw p.size 60 < 0):=by omega
   rw [if_pos h]
   clear h1
   go_enter Tryz.func9,Tryz.ntmps9
   go_wp2_with (go_at_call 33;refine (H _ (L1 _).out).out.mono ?_;rintro e w' ⟨rfl,hb⟩)
   go_ret
   exact ⟨rfl,zal hb⟩
 · have h1:zbw p.size 60 = -1:=if_neg (by omega)
   have h2:zbw p.size 60 < 0:=by omega
   rw [if_neg h]
   clear h1
   go_enter Tryz.func9,Tryz.ntmps9
   go_wp2_with (go_at_call 33;refine (H _ (L1 _).out).out.mono ?_;rintro e w' ⟨rfl,hb⟩)
   go_ret
   exact ⟨rfl,zal hb⟩
def bzV (V A:Nat → Int) (j:Nat):Int:=if V j ≤ A j then 0 else V j
def bz8 (V A:Nat → Int) (k:Nat) (j:Nat):Int:=if j < k then bzV V A j else V j
theorem zst (V A:Nat → Int):arr8 V = arr8 (bz8 V A 0):=zca fun j _=>by unfold bz8;rw [if_neg (by omega)]
theorem zqq (V A:Nat → Int):arr8 (bz8 V A 8) = arr8 (bzV V A):=zca fun j h=>by unfold bz8;rw [if_pos h]
theorem zu0 (V A:Nat → Int) {k:Nat} {v:Int} (hv:v = bzV V A k):arr8 (fun j=>if j = k then v else bz8 V A k j) = arr8 (bz8 V A (k + 1)):=zca fun j _=>by
 unfold bz8
 by_cases e:j = k
 · subst e;rw [if_pos rfl,if_pos (by omega)];exact hv
 · rw [if_neg e]
   by_cases h:j < k
   · rw [if_pos h,if_pos (by omega)]
   · rw [if_neg h,if_neg (by omega)]
theorem zss (V A:Nat → Int) {k:Nat} (hv:V k = bzV V A k):arr8 (bz8 V A k) = arr8 (bz8 V A (k + 1)):=zca fun j _=>by
 unfold bz8
 by_cases e:j = k
 · subst e;rw [if_neg (by omega),if_pos (by omega)];exact hv
 · by_cases h:j < k
   · rw [if_pos h,if_pos (by omega)]
   · rw [if_neg h,if_neg (by omega)]
structure BZ (V A:Nat → Int) (k:Nat) (w wr:World):Prop where
 o1:Own wr w.heap.size (arr8 (bz8 V A k)) 28
 o3:Own wr (w.heap.size + 1 + 1) (arr8 fun _=>0) 28
 bel:Below w.heap.size w wr
def zxe (V A:Nat → Int) (w:World) (i:Value) (wr:World):Prop:=∃ k:Nat,k ≤ 8 ∧ i = .int .i64 k ∧ Hid (BZ V A k w wr)
theorem zh2 (V A:Nat → Int) (w:World) :
   Calls Tryz.prog 130 #[vecV V,vecV A] w fun e w'=>e = .returned (vecV (bzV V A)) ∧ Below w.heap.size w w':=by
 have I0:BZ V A 0 w (((w.alloc (.cells (arr8 V) 28)).alloc (.cells (arr8 A) 28)).alloc (.cells (arr8 fun _=>0) 28)) :=
   ⟨by rw [← zst];exact ((Own.new w _ _).alloc _).alloc _,Own.newAt _ _ _ (by simp),(((Below.refl _ _).alloc (Nat.le_refl _) _).alloc (by simp) _).alloc (by simp;omega) _⟩
 have HI0:=y17h I0
 clear I0
 go_enter Tryz.func130,Tryz.ntmps130
 go_wp2_with fail
 go_loopw [8] (fun i wr=>zxe V A w i wr) (fun i _=>8 - (intOf i).toNat)
 case atStart=>exact ⟨0,by omega,rfl,HI0⟩
 case round =>
   clear HI0
   obtain ⟨k,hk,rfl,HP⟩:=hrel
   by_cases hlt:k < 8
   · have ix:=fun w=>idx8 A hlt w
     have ca:=(HP.out.o1.cell k).trans (zee (bz8 V A k) hlt)
     rw [show bz8 V A k k = V k by unfold bz8;rw [if_neg (by omega)]] at ca
     have fa:=HP.out.o1.free k
     have z1:=HP.out.o1.lt
     have k0:(0:Int) ≤ (k:Int):=by omega
     have k1:(k:Int) < 8:=by omega
     by_cases h:V k ≤ A k
     · have g:decide (V k ≤ A k) = true:=decide_eq_true h
       have HR:Hid (BZ V A (k + 1) w (wr.setCell ⟨w.heap.size,k,none⟩ (.int .i64 0))):=y17h (by
         refine ⟨?_,HP.out.o3.setFar _ _ (by show w.heap.size + 1 + 1 ≠ w.heap.size;omega),HP.out.bel.setCell (p:=⟨w.heap.size,k,none⟩) (Nat.le_refl _) _⟩
         rw [← zu0 V A (v:=0) (by unfold bzV;rw [if_pos h]),← zfc _ hlt]
         exact HP.out.o1.set k _)
       go_wp2_with fail
       go_roundw
       case rel=>exact ⟨k + 1,by omega,by go_num,HR⟩
       case measure=>simp [intOf];omega
     · have g:decide (V k ≤ A k) = false:=decide_eq_false h
       have HR:Hid (BZ V A (k + 1) w wr):=y17h ⟨by rw [← zss V A (by unfold bzV;rw [if_neg h])];exact HP.out.o1,HP.out.o3,HP.out.bel⟩
       go_wp2_with fail
       go_roundw
       case rel=>exact ⟨k + 1,by omega,by go_num,HR⟩
       case measure=>simp [intOf];omega
   · have e:k = 8:=by omega
     subst e
     have o1:=HP.out.o1
     rw [zqq] at o1
     have l3:=HP.out.o3.cell
     have f3:=HP.out.o3.free
     have z3:=HP.out.o3.lt
     have l4:=o1.cell
     have z4:=o1.lt
     have BEL:=y17h HP.out.bel
     go_wp2_with fail
     have key:=And.intro (zcf HP.out.o3 (.int .i64 ((bzV V A) 0)) (.int .i64 ((bzV V A) 1)) (.int .i64 ((bzV V A) 2)) (.int .i64 ((bzV V A) 3)) (.int .i64 ((bzV V A) 4)) (.int .i64 ((bzV V A) 5)) (.int .i64 ((bzV V A) 6)) (.int .i64 ((bzV V A) 7))) (zbq (b:=w.heap.size + 1 + 1) BEL.out (by omega) (.int .i64 ((bzV V A) 0)) (.int .i64 ((bzV V A) 1)) (.int .i64 ((bzV V A) 2)) (.int .i64 ((bzV V A) 3)) (.int .i64 ((bzV V A) 4)) (.int .i64 ((bzV V A) 5)) (.int .i64 ((bzV V A) 6)) (.int .i64 ((bzV V A) 7)))
     clear l3 f3 z3 l4 z4
     unfold st8 at key
     revert key
     generalize World.setCell (World.setCell (World.setCell (World.setCell (World.setCell (World.setCell (World.setCell (World.setCell _ _ _) _ _) _ _) _ _) _ _) _ _) _ _) _ _ = WW
     rintro ⟨of,bf⟩
     have lf:=of.cell
     refine bodyPost_ret (v:=vecV ((bzV V A))) (by simp [results,Tryz.results130,go_sem,lf]) rfl ⟨rfl,bf⟩
end Go.Proofs.YthnllikalobmeaaGreat
