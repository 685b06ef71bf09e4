/- Joined: OpenV, ErrH, Zero, RefFits. -/
import Derived.Test.YtodfhabkdaiopaaGreatJ14
import Derived.Test.YtodfhabkdaiopaaGreatJ01
import Derived.Test.YtodfhabkdaiopaaGreatJ15
import Derived.Deep.DeepCutAuto
import Derived.Deep.CutBlock
namespace Go.Proofs.YtodfhabkdaiopaaGreat
set_option linter.unusedVariables false
set_option linter.unusedSimpArgs false
set_option maxRecDepth 100000
set_option maxHeartbeats 8000000
open Go.ChangeShapes Go.WideShapes Go.ChangeAt Go.RowKit Go.Deep
theorem y16h {p:Prop} (h:p):Go.RowKit.Hid p:=Lib.hid h
section
variable {H:Type} {enc:TypeId × Value→H} {w:World} {base:Nat} {spare:Nat→Bool} {held:Bool} {fuel:Nat} {cs:List Value} {x:DataW H × List MemPlace}
end
end Go.Proofs.YtodfhabkdaiopaaGreat
namespace Go.Proofs.YtodfhabkdaiopaaGreat
set_option linter.unusedVariables false
set_option linter.unusedSimpArgs false
set_option maxRecDepth 100000
set_option maxHeartbeats 8000000
open Go.RowKit
def errV (n:Nat):Value:=if n=0 then .nilIface else .iface 124 (.int .i64 n)
theorem zp9 (n k:Int) (w:World):(binOp .eql 42 (.iface 124 (.int .i64 n)) (.iface 124 (.int .i64 k))).run Tryz.prog w=.ok (.bool (n == k)) w:=by
 have hc:(Tryz.prog.info? 124).map (·.comparable)=some true:=by kernel_rfl
 cases hq:Tryz.prog.info? 124 with
 | none=>rw [hq] at hc;cases hc
 | some i =>
   have h1:i.comparable=true:=by rw [hq] at hc;simpa using hc
   have e:(Op.equalIn 9999 124 (.int .i64 n) (.int .i64 k)).run Tryz.prog w=.ok (n == k) w:=by
     unfold Op.equalIn
     simp [run_underlying Tryz.underlying124]
   have e2:(Op.equalIn 10000 42 (.iface 124 (.int .i64 n)) (.iface 124 (.int .i64 k))).run Tryz.prog w=.ok (n == k) w:=by
     rw [show (10000:Nat)=9999 + 1 from rfl]
     unfold Op.equalIn
     simp [run_underlying Tryz.underlying42,typeInfo,hq,h1,e]
   simp [binOp,Op.equal,Op.maxDepth,e2]
attribute [local go_sem ↓] zp9
def zx5 (n:Nat) (w0:World) (i:Value) (wr:World):Prop:=∃ k:Nat,1≤k∧k≤n∧i=.int .i64 k∧Hid (w0=wr)
theorem zrj (n:Nat) (hn:n≤10) (w:World) :
   Calls Tryz.prog 14 #[errV n] w fun e w'=>e=.returned (.int .i64 n)∧w=w':=by
 by_cases h0:n=0
 · subst h0
   rw [show errV 0=.nilIface from rfl]
   go_enter Tryz.func14,Tryz.ntmps14
   go_wp2_with fail
   go_ret
   exact ⟨rfl,rfl⟩
 · rw [show errV n=.iface 124 (.int .i64 n) from if_neg h0]
   go_enter Tryz.func14,Tryz.ntmps14
   go_wp2_with fail
   go_loopw [3] (fun i wr=>zx5 n w i wr) (fun i _=>11 - (intOf i).toNat)
   case atStart=>exact ⟨1,Nat.le_refl _,by omega,rfl,rfl⟩
   case round =>
     obtain ⟨k,hk1,hk,rfl,hw⟩:=hrel
     have ew:=hw.out
     subst ew
     clear hw
     have g1:(k:Int)≤10:=by omega
     by_cases e:n=k
     · subst e
       go_wp2_with fail
       go_ret
       exact ⟨rfl,rfl⟩
     · have g2:((n:Int) == (k:Int))=false:=by rw [beq_eq_false_iff_ne];omega
       go_wp2_with fail
       go_roundw
       case rel=>exact ⟨k + 1,by omega,by omega,by go_num,rfl⟩
       case measure=>simp [intOf];omega
end Go.Proofs.YtodfhabkdaiopaaGreat
namespace Go.Proofs.YtodfhabkdaiopaaGreat
set_option linter.unusedVariables false
set_option linter.unusedSimpArgs false
set_option maxRecDepth 100000
set_option maxHeartbeats 8000000
open Go.RowKit
def zb9 (bt bn ba bk:Bool) (t:ByteArray) (n:Int) (x y len:Nat):Bool :=
 (bt || decide (t.toList=[])) && ((bn || decide (n=0)) && ((ba || (feq x 0 && feq y 0)) && (bk || decide (len=0))))
theorem zqx (k:Nat):decide ((0:Int) < (k:Int))=!decide (k=0):=by
 rw [Bool.eq_iff_iff];simp;omega
theorem zss (bt bn ba bk:Bool) (op:Int) (t:ByteArray) (n:Int) (x y:Nat) (oa:Option Addr) (len cap:Nat) (w:World) :
   Calls Tryz.prog 186 #[.agg #[.int .i64 op,.string t,.int .i64 n,.complex .f64 x y,.slice oa len cap],.bool bt,.bool bn,.bool ba,.bool bk] w fun e w'=>e=.returned (.bool (zb9 bt bn ba bk t n x y len))∧Below w.heap.size w w':=by
 have f1:∀ x y,(FloatKind.f64.format.order x y == some .eq)=feq x y:=fun _ _=>rfl
 cases bt <;> cases bn <;> cases ba <;> cases bk
 all_goals
   go_enter Tryz.func186,Tryz.ntmps186
   go_wp2
   all_goals
     go_ret
     refine ⟨zac ?_,(Below.refl _ _).alloc (Nat.le_refl _) _⟩
     first
       | (simp_all [zb9,zqx];done)
       | (have hl0:¬ len=0:=by omega
          simp_all [zb9,zqx])
theorem zdw:feq 0 0=true:=by decide +kernel
theorem zc3 {a b:Bool} (h:a=b):Value.bool a=.bool b:=by rw [h]
theorem zwx (t:ByteArray) (n:Int) (x y len:Nat):Pr.partB 1 t n x y len=zb9 false false false false t n x y len:=by
 simp [Pr.partB,Pr.bareB,zb9,inW,zdw]
 try ac_rfl
theorem zwy (t:ByteArray) (n:Int) (x y len:Nat):Pr.partB 2 t n x y len=zb9 false false false false t n x y len:=by
 simp [Pr.partB,Pr.bareB,zb9,inW,zdw]
 try ac_rfl
theorem zwz (t:ByteArray) (n:Int) (x y len:Nat):Pr.partB 3 t n x y len=(zb9 true false false false t n x y len && txtB t):=by
 simp [Pr.partB,Pr.bareB,zb9,inW,zdw]
 try ac_rfl
theorem zw0 (t:ByteArray) (n:Int) (x y len:Nat):Pr.partB 4 t n x y len=(zb9 true false false false t n x y len && txtB t):=by
 simp [Pr.partB,Pr.bareB,zb9,inW,zdw]
 try ac_rfl
theorem zw1 (t:ByteArray) (n:Int) (x y len:Nat):Pr.partB 5 t n x y len=(zb9 false true false false t n x y len && inW n (-1000000) 1000000):=by
 simp [Pr.partB,Pr.bareB,zb9,inW,zdw]
 try ac_rfl
theorem zw2 (t:ByteArray) (n:Int) (x y len:Nat):Pr.partB 6 t n x y len=(zb9 false true false false t n x y len && inW n (-1000000) 1000000):=by
 simp [Pr.partB,Pr.bareB,zb9,inW,zdw]
 try ac_rfl
theorem zw3 (t:ByteArray) (n:Int) (x y len:Nat):Pr.partB 7 t n x y len=(zb9 false true true false t n x y len && (mayB x y && inW n 0 8000000)):=by
 simp [Pr.partB,Pr.bareB,zb9,inW,zdw]
 try ac_rfl
theorem zw6 (t:ByteArray) (n:Int) (x y len:Nat):Pr.partB 8 t n x y len=zb9 false false false true t n x y len:=by
 simp [Pr.partB,Pr.bareB,zb9,inW,zdw]
 try ac_rfl
theorem zw8 (t:ByteArray) (n:Int) (x y len:Nat):Pr.partB 9 t n x y len=zb9 false false false true t n x y len:=by
 simp [Pr.partB,Pr.bareB,zb9,inW,zdw]
 try ac_rfl
theorem zus (t:ByteArray) (n:Int) (x y len:Nat):Pr.partB 10 t n x y len=(zb9 false false false true t n x y len && decide (len=1)):=by
 simp [Pr.partB,Pr.bareB,zb9,inW,zdw]
 try ac_rfl
def zzk (l:List Pr) (len:Nat) (b0:Bool) (w0:World) (ok i:Value) (wr:World):Prop :=
 ∃ (k:Nat) (a:Bool),k≤len∧i=.int .i64 k∧ok=.bool a∧Hid (a=(b0 && Pr.alls (l.take k)))∧Below w0.heap.size w0 wr
theorem znf (p:Pr):∀ (v:Value) (w:World),LP w p v→p.size≤1000 →
   Calls Tryz.prog 132 #[.agg #[.int .i64 p.op,.string p.text,.int .i64 p.n,.complex .f64 p.x p.y,v]] w fun e w'=>e=.returned (.bool p.all)∧Below w.heap.size w w':=by
 induction p using Pr.ind with
 | h op t n x y kids ih =>
   intro v w hL hsz
   obtain ⟨oa,cap,b,o,V,rfl,ht,hl,hc,hn,hcell,hrec⟩:=zba hL
   simp only [Pr.kids_node,Pr.text_node,Pr.op_node,Pr.n_node,Pr.x_node,Pr.y_node,Pr.size] at *
   have HT:=fun w=>y16h (zhu t w ht)
   have HM:=fun w=>y16h (zey x y w)
   unfold maxLen at hc
   have h1000:=Pr.len_le_sizes kids
   have HC:=y16h hcell
   have HR:=y16h hrec
   have HN:=y16h hn
   have HI:=y16h ih
   clear hL hcell hrec hn ih
   generalize hlen:kids.length=len at *
   have HLEN:=y16h hlen
   clear hlen
   go_enter Tryz.func132,Tryz.ntmps132
   go_upto_block 0 with (first
     | (go_at_call 144;refine (HT _).out.mono ?_;rintro e w' ⟨rfl,rfl⟩)
     | (go_at_call 145;refine (HM _).out.mono ?_;rintro e w' ⟨rfl,rfl⟩))
   go_cut [3,5] (fun s3 _ wx=>s3=.bool (Pr.partB op t n x y len)∧Hid (Below w.heap.size w wx∧Has wx w.heap.size #[.int .i64 op,.string t,.int .i64 n,.complex .f64 x y,.slice oa len cap]))
   case first =>
     clear HC HR HN HI HT HM HLEN
     have Z:=fun bt bn ba bk op n w=>y16h (zss bt bn ba bk op t n x y oa len cap w)
     have G:=y16h (Own.new w #[.int .i64 op,.string t,.int .i64 n,.complex .f64 x y,.slice oa len cap] 32)
     have hop:op=1 ∨ op=2 ∨ op=3 ∨ op=4 ∨ op=5 ∨ op=6 ∨ op=7 ∨ op=8 ∨ op=9 ∨ op=10 ∨ (op ≠ 1∧op ≠ 2∧op ≠ 3∧op ≠ 4∧op ≠ 5∧op ≠ 6∧op ≠ 7∧op ≠ 8∧op ≠ 9∧op ≠ 10):=by omega
     rcases hop with rfl | rfl | rfl | rfl | rfl | rfl | rfl | rfl | rfl | rfl | ⟨n1,n2,n3,n4,n5,n6,n7,n8,n9,n10⟩
     · have E:=y16h (zwx t n x y len)
       go_wp2_with (go_at_call 186;refine (Z _ _ _ _ _ _ _).out.mono ?_;rintro e w' ⟨rfl,hb⟩;have hg:=(G.out.later hb).cell)
       all_goals
         go_meet
         refine ⟨zc3 ?_,zai hb,(G.out.later hb).has⟩
         rw [E.out]
         try (first | (simp_all [inW];done) | (simp_all [inW];omega))
     · have E:=y16h (zwy t n x y len)
       go_wp2_with (go_at_call 186;refine (Z _ _ _ _ _ _ _).out.mono ?_;rintro e w' ⟨rfl,hb⟩;have hg:=(G.out.later hb).cell)
       all_goals
         go_meet
         refine ⟨zc3 ?_,zai hb,(G.out.later hb).has⟩
         rw [E.out]
         try (first | (simp_all [inW];done) | (simp_all [inW];omega))
     · have E:=y16h (zwz t n x y len)
       go_wp2_with (go_at_call 186;refine (Z _ _ _ _ _ _ _).out.mono ?_;rintro e w' ⟨rfl,hb⟩;have hg:=(G.out.later hb).cell)
       all_goals
         go_meet
         refine ⟨zc3 ?_,zai hb,(G.out.later hb).has⟩
         rw [E.out]
         try (first | (simp_all [inW];done) | (simp_all [inW];omega))
     · have E:=y16h (zw0 t n x y len)
       go_wp2_with (go_at_call 186;refine (Z _ _ _ _ _ _ _).out.mono ?_;rintro e w' ⟨rfl,hb⟩;have hg:=(G.out.later hb).cell)
       all_goals
         go_meet
         refine ⟨zc3 ?_,zai hb,(G.out.later hb).has⟩
         rw [E.out]
         try (first | (simp_all [inW];done) | (simp_all [inW];omega))
     · have E:=y16h (zw1 t n x y len)
       go_wp2_with (go_at_call 186;refine (Z _ _ _ _ _ _ _).out.mono ?_;rintro e w' ⟨rfl,hb⟩;have hg:=(G.out.later hb).cell)
       all_goals
         go_meet
         refine ⟨zc3 ?_,zai hb,(G.out.later hb).has⟩
         rw [E.out]
         try (first | (simp_all [inW];done) | (simp_all [inW];omega))
     · have E:=y16h (zw2 t n x y len)
       go_wp2_with (go_at_call 186;refine (Z _ _ _ _ _ _ _).out.mono ?_;rintro e w' ⟨rfl,hb⟩;have hg:=(G.out.later hb).cell)
       all_goals
         go_meet
         refine ⟨zc3 ?_,zai hb,(G.out.later hb).has⟩
         rw [E.out]
         try (first | (simp_all [inW];done) | (simp_all [inW];omega))
     · have E:=y16h (zw3 t n x y len)
       go_wp2_with (go_at_call 186;refine (Z _ _ _ _ _ _ _).out.mono ?_;rintro e w' ⟨rfl,hb⟩;have hg:=(G.out.later hb).cell)
       all_goals
         go_meet
         refine ⟨zc3 ?_,zai hb,(G.out.later hb).has⟩
         rw [E.out]
         try (first | (simp_all [inW];done) | (simp_all [inW];omega))
     · have E:=y16h (zw6 t n x y len)
       go_wp2_with (go_at_call 186;refine (Z _ _ _ _ _ _ _).out.mono ?_;rintro e w' ⟨rfl,hb⟩;have hg:=(G.out.later hb).cell)
       all_goals
         go_meet
         refine ⟨zc3 ?_,zai hb,(G.out.later hb).has⟩
         rw [E.out]
         try (first | (simp_all [inW];done) | (simp_all [inW];omega))
     · have E:=y16h (zw8 t n x y len)
       go_wp2_with (go_at_call 186;refine (Z _ _ _ _ _ _ _).out.mono ?_;rintro e w' ⟨rfl,hb⟩;have hg:=(G.out.later hb).cell)
       all_goals
         go_meet
         refine ⟨zc3 ?_,zai hb,(G.out.later hb).has⟩
         rw [E.out]
         try (first | (simp_all [inW];done) | (simp_all [inW];omega))
     · have E:=y16h (zus t n x y len)
       have f2:=zqw len
       go_wp2_with (go_at_call 186;refine (Z _ _ _ _ _ _ _).out.mono ?_;rintro e w' ⟨rfl,hb⟩;have hg:=(G.out.later hb).cell)
       all_goals
         go_meet
         refine ⟨zc3 ?_,zai hb,(G.out.later hb).has⟩
         rw [E.out]
         try (first | (simp_all [inW];done) | (simp_all [inW];omega))
     · have E:=y16h (show Pr.partB op t n x y len=false by simp [Pr.partB,n1,n2,n3,n4,n5,n6,n7,n8,n9,n10])
       go_wp2_with fail
       all_goals
         go_meet
         exact ⟨zc3 E.out.symm,(Below.refl _ _).alloc (Nat.le_refl _) _,G.out.has⟩
   case rest =>
     obtain ⟨rfl,hh⟩:=hcut
     obtain ⟨hB,g0⟩:=Hid.out hh
     have HBW:=y16h hB
     clear hh hB HT HM
     generalize hb0:Pr.partB op t n x y len=b0
     have HP:=y16h hb0
     clear hb0
     go_wp2_with fail
     go_loopw [3,6] (fun ok i wr=>zzk kids len b0 wc ok i wr) (fun _ i _=>len - (intOf i).toNat)
     case atStart=>exact ⟨0,b0,Nat.zero_le _,rfl,rfl,by simp [Hid,Pr.alls],Below.refl _ _⟩
     case round =>
       obtain ⟨k,a,hk,rfl,rfl,HA,hb⟩:=hrel
       have g:=g0.below hb g0.lt
       by_cases hlt:k < len
       · obtain ⟨q,hq⟩:∃ q,kids[k]?=some q:=⟨_,List.getElem?_eq_getElem (by rw [HLEN.out];exact hlt)⟩
         obtain ⟨rfl,hB⟩:=HN.out (by omega)
         obtain ⟨oq,cq,hV⟩:=zao (HR.out k q hq)
         have hbw:Below w.heap.size w wr:=HBW.out.trans (hb.mono HBW.out.size)
         obtain ⟨c0,c1,c2,c3,c4⟩:=zce (w:=wr) (fun j u hu=>(hbw.cell (p:=⟨b,o + k * 5 + j,none⟩) hB).trans (HC.out k q hq j u hu))
         have L0:=(HR.out k q hq).later hbw (Nat.le_refl _)
         rw [hV] at c4 L0
         have hqs:=Pr.size_mem (List.mem_of_getElem? hq)
         have CC:=y16h (HI.out q (List.mem_of_getElem? hq) (.slice oq q.kids.length cq) wr L0 (by omega))
         have h6:=Pr.alls_take hq
         have HA1:=y16h (show (a && q.all)=(b0 && Pr.alls (kids.take (k + 1))) by rw [h6,HA.out,Bool.and_assoc])
         have HB:=y16h hb
         clear hb hbw hq L0 h6 hV
         generalize q.all=qa at *
         have l:=g.cell
         have z:=g.lt
         clear g
         go_wp2_with (go_at_call 132;refine CC.out.mono ?_;rintro e w' ⟨rfl,hb'⟩)
         all_goals
           go_roundw
           case rel=>exact ⟨k + 1,a && qa,by omega,by go_num,by simp_all,HA1.out,HB.out.trans (hb'.mono HB.out.size)⟩
           case measure=>simp [intOf];omega
       · have HB:=y16h hb
         clear hb
         have l:=g.cell
         have z:=g.lt
         clear g
         have e:k=len:=by omega
         have h7:=HA.out
         rw [Pr.take_all kids (by rw [HLEN.out];omega)] at h7
         have HE:=y16h (show a=(Pr.node op t n x y kids).all by rw [h7];simp only [Pr.all];rw [HLEN.out,HP.out])
         clear h7 e
         go_wp2_with fail
         go_ret
         exact ⟨zac HE.out,HBW.out.trans (HB.out.mono HBW.out.size)⟩
end Go.Proofs.YtodfhabkdaiopaaGreat
