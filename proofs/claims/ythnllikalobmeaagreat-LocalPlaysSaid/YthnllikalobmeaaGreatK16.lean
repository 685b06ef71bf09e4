/- Joined: OpenV, Zero, RefFits, OpenL. -/
import Derived.Test.YthnllikalobmeaaGreatK14
import Derived.Test.YthnllikalobmeaaGreatK01
import Derived.Test.YthnllikalobmeaaGreatK15
import Derived.Deep.DeepCutAuto
import Derived.Deep.CutBlock
import Derived.Test.YthnllikalobmeaaGreatK04
namespace Go.Proofs.YthnllikalobmeaaGreat
set_option linter.unusedVariables false
set_option linter.unusedSimpArgs false
set_option maxRecDepth 100000
set_option maxHeartbeats 8000000
open Go.ChangeShapes Go.WideShapes Go.ChangeAt Go.RowKit Go.Deep
theorem y16h {p:Prop} (h:p):Hid p:=Lib.hid h
section
variable {H:Type} {enc:TypeId × Value → H} {w:World} {base:Nat} {spare:Nat → Bool} {held:Bool} {fuel:Nat} {cs:List Value} {x:DataW H × List MemPlace}
end
end Go.Proofs.YthnllikalobmeaaGreat
namespace Go.Proofs.YthnllikalobmeaaGreat
set_option linter.unusedVariables false
set_option linter.unusedSimpArgs false
set_option maxRecDepth 100000
set_option maxHeartbeats 8000000
open Go.RowKit
def zbu (bt bn ba bk:Bool) (t:ByteArray) (n:Int) (x y len:Nat):Bool :=
 (bt || decide (t.toList = [])) && ((bn || decide (n = 0)) && ((ba || (feq x 0 && feq y 0)) && (bk || decide (len = 0))))
theorem zqq (k:Nat):decide ((0:Int) < (k:Int)) = !decide (k = 0):=by
 rw [Bool.eq_iff_iff];simp;omega
theorem zsr (bt bn ba bk:Bool) (op:Int) (t:ByteArray) (n:Int) (x y:Nat) (oa:Option Addr) (len cap:Nat) (w:World) :
   Calls Tryz.prog 133 #[.agg #[.int .i64 op,.string t,.int .i64 n,.complex .f64 x y,.slice oa len cap],.bool bt,.bool bn,.bool ba,.bool bk] w fun e w'=>e = .returned (.bool (zbu bt bn ba bk t n x y len)) ∧ Below w.heap.size w w':=by
 have f1:∀ x y,(FloatKind.f64.format.order x y == some .eq) = feq x y:=fun _ _=>rfl
 cases bt <;> cases bn <;> cases ba <;> cases bk
 all_goals
   go_enter Tryz.func133,Tryz.ntmps133
   go_wp2
   all_goals
     go_ret
     refine ⟨zaa ?_,(Below.refl _ _).alloc (Nat.le_refl _) _⟩
     first
       | (simp_all [zbu,zqq];done)
       | (have hl0:¬ len = 0:=by omega
          simp_all [zbu,zqq])
theorem zdc:feq 0 0 = true:=by decide +kernel
theorem zco {a b:Bool} (h:a = b):Value.bool a = .bool b:=by rw [h]
theorem zwt (t:ByteArray) (n:Int) (x y len:Nat):Pr.partB 1 t n x y len = zbu false false false false t n x y len:=by
 simp [Pr.partB,Pr.bareB,zbu,inW,zdc]
 try ac_rfl
theorem zwu (t:ByteArray) (n:Int) (x y len:Nat):Pr.partB 2 t n x y len = zbu false false false false t n x y len:=by
 simp [Pr.partB,Pr.bareB,zbu,inW,zdc]
 try ac_rfl
theorem zwv (t:ByteArray) (n:Int) (x y len:Nat):Pr.partB 3 t n x y len = (zbu true false false false t n x y len && txtB t):=by
 simp [Pr.partB,Pr.bareB,zbu,inW,zdc]
 try ac_rfl
theorem zww (t:ByteArray) (n:Int) (x y len:Nat):Pr.partB 4 t n x y len = (zbu true false false false t n x y len && txtB t):=by
 simp [Pr.partB,Pr.bareB,zbu,inW,zdc]
 try ac_rfl
theorem zwx (t:ByteArray) (n:Int) (x y len:Nat):Pr.partB 5 t n x y len = (zbu false true false false t n x y len && inW n (-1000000) 1000000):=by
 simp [Pr.partB,Pr.bareB,zbu,inW,zdc]
 try ac_rfl
theorem zwy (t:ByteArray) (n:Int) (x y len:Nat):Pr.partB 6 t n x y len = (zbu false true false false t n x y len && inW n (-1000000) 1000000):=by
 simp [Pr.partB,Pr.bareB,zbu,inW,zdc]
 try ac_rfl
theorem zwz (t:ByteArray) (n:Int) (x y len:Nat):Pr.partB 7 t n x y len = (zbu false true true false t n x y len && (mayB x y && inW n 0 8000000)):=by
 simp [Pr.partB,Pr.bareB,zbu,inW,zdc]
 try ac_rfl
theorem zw0 (t:ByteArray) (n:Int) (x y len:Nat):Pr.partB 8 t n x y len = zbu false false false true t n x y len:=by
 simp [Pr.partB,Pr.bareB,zbu,inW,zdc]
 try ac_rfl
theorem zw1 (t:ByteArray) (n:Int) (x y len:Nat):Pr.partB 9 t n x y len = zbu false false false true t n x y len:=by
 simp [Pr.partB,Pr.bareB,zbu,inW,zdc]
 try ac_rfl
theorem zuq (t:ByteArray) (n:Int) (x y len:Nat):Pr.partB 10 t n x y len = (zbu false false false true t n x y len && decide (len = 1)):=by
 simp [Pr.partB,Pr.bareB,zbu,inW,zdc]
 try ac_rfl
def zzd (l:List Pr) (len:Nat) (b0:Bool) (w0:World) (ok i:Value) (wr:World):Prop :=
 ∃ (k:Nat) (a:Bool),k ≤ len ∧ i = .int .i64 k ∧ ok = .bool a ∧ Hid (a = (b0 && Pr.alls (l.take k))) ∧ Below w0.heap.size w0 wr
theorem zmt (p:Pr):∀ (v:Value) (w:World),LP w p v → p.size ≤ 1000 →
   Calls Tryz.prog 86 #[.agg #[.int .i64 p.op,.string p.text,.int .i64 p.n,.complex .f64 p.x p.y,v]] w fun e w'=>e = .returned (.bool p.all) ∧ Below w.heap.size w w':=by
 induction p using Pr.ind with
 | h op t n x y kids ih =>
   intro v w hL hsz
   obtain ⟨oa,cap,b,o,V,rfl,ht,hl,hc,hn,hcell,hrec⟩:=za8 hL
   simp only [Pr.kids_node,Pr.text_node,Pr.op_node,Pr.n_node,Pr.x_node,Pr.y_node,Pr.size] at *
   have HT:=fun w=>y16h (zhb t w ht)
   have HM:=fun w=>y16h (zd6 x y w)
   unfold maxLen at hc
   have h1000:=Pr.len_le_sizes kids
   have HC:=y16h hcell
   have HR:=y16h hrec
   have HN:=y16h hn
   have HI:=y16h ih
   clear hL hcell hrec hn ih
   generalize hlen:kids.length = len at *
   have HLEN:=y16h hlen
   clear hlen
   go_enter Tryz.func86,Tryz.ntmps86
   go_upto_block 0 with (first
     | (go_at_call 131;refine (HT _).out.mono ?_;rintro e w' ⟨rfl,rfl⟩)
     | (go_at_call 132;refine (HM _).out.mono ?_;rintro e w' ⟨rfl,rfl⟩))
   go_cut [3,5] (fun s3 _ wx=>s3 = .bool (Pr.partB op t n x y len) ∧ Hid (Below w.heap.size w wx ∧ Has wx w.heap.size #[.int .i64 op,.string t,.int .i64 n,.complex .f64 x y,.slice oa len cap]))
   case first =>
     clear HC HR HN HI HT HM HLEN
     have Z:=fun bt bn ba bk op n w=>y16h (zsr bt bn ba bk op t n x y oa len cap w)
     have G:=y16h (Own.new w #[.int .i64 op,.string t,.int .i64 n,.complex .f64 x y,.slice oa len cap] 40)
     have hop:op = 1 ∨ op = 2 ∨ op = 3 ∨ op = 4 ∨ op = 5 ∨ op = 6 ∨ op = 7 ∨ op = 8 ∨ op = 9 ∨ op = 10 ∨ (op ≠ 1 ∧ op ≠ 2 ∧ op ≠ 3 ∧ op ≠ 4 ∧ op ≠ 5 ∧ op ≠ 6 ∧ op ≠ 7 ∧ op ≠ 8 ∧ op ≠ 9 ∧ op ≠ 10):=by omega
     rcases hop with rfl | rfl | rfl | rfl | rfl | rfl | rfl | rfl | rfl | rfl | ⟨n1,n2,n3,n4,n5,n6,n7,n8,n9,n10⟩
     · have E:=y16h (zwt t n x y len)
       go_wp2_with (go_at_call 133;refine (Z _ _ _ _ _ _ _).out.mono ?_;rintro e w' ⟨rfl,hb⟩;have hg:=(G.out.later hb).cell)
       all_goals
         go_meet
         refine ⟨zco ?_,zaj hb,(G.out.later hb).has⟩
         rw [E.out]
         try (first | (simp_all [inW];done) | (simp_all [inW];omega))
     · have E:=y16h (zwu t n x y len)
       go_wp2_with (go_at_call 133;refine (Z _ _ _ _ _ _ _).out.mono ?_;rintro e w' ⟨rfl,hb⟩;have hg:=(G.out.later hb).cell)
       all_goals
         go_meet
         refine ⟨zco ?_,zaj hb,(G.out.later hb).has⟩
         rw [E.out]
         try (first | (simp_all [inW];done) | (simp_all [inW];omega))
     · have E:=y16h (zwv t n x y len)
       go_wp2_with (go_at_call 133;refine (Z _ _ _ _ _ _ _).out.mono ?_;rintro e w' ⟨rfl,hb⟩;have hg:=(G.out.later hb).cell)
       all_goals
         go_meet
         refine ⟨zco ?_,zaj hb,(G.out.later hb).has⟩
         rw [E.out]
         try (first | (simp_all [inW];done) | (simp_all [inW];omega))
     · have E:=y16h (zww t n x y len)
       go_wp2_with (go_at_call 133;refine (Z _ _ _ _ _ _ _).out.mono ?_;rintro e w' ⟨rfl,hb⟩;have hg:=(G.out.later hb).cell)
       all_goals
         go_meet
         refine ⟨zco ?_,zaj hb,(G.out.later hb).has⟩
         rw [E.out]
         try (first | (simp_all [inW];done) | (simp_all [inW];omega))
     · have E:=y16h (zwx t n x y len)
       go_wp2_with (go_at_call 133;refine (Z _ _ _ _ _ _ _).out.mono ?_;rintro e w' ⟨rfl,hb⟩;have hg:=(G.out.later hb).cell)
       all_goals
         go_meet
         refine ⟨zco ?_,zaj hb,(G.out.later hb).has⟩
         rw [E.out]
         try (first | (simp_all [inW];done) | (simp_all [inW];omega))
     · have E:=y16h (zwy t n x y len)
       go_wp2_with (go_at_call 133;refine (Z _ _ _ _ _ _ _).out.mono ?_;rintro e w' ⟨rfl,hb⟩;have hg:=(G.out.later hb).cell)
       all_goals
         go_meet
         refine ⟨zco ?_,zaj hb,(G.out.later hb).has⟩
         rw [E.out]
         try (first | (simp_all [inW];done) | (simp_all [inW];omega))
     · have E:=y16h (zwz t n x y len)
       go_wp2_with (go_at_call 133;refine (Z _ _ _ _ _ _ _).out.mono ?_;rintro e w' ⟨rfl,hb⟩;have hg:=(G.out.later hb).cell)
       all_goals
         go_meet
         refine ⟨zco ?_,zaj hb,(G.out.later hb).has⟩
         rw [E.out]
         try (first | (simp_all [inW];done) | (simp_all [inW];omega))
     · have E:=y16h (zw0 t n x y len)
       go_wp2_with (go_at_call 133;refine (Z _ _ _ _ _ _ _).out.mono ?_;rintro e w' ⟨rfl,hb⟩;have hg:=(G.out.later hb).cell)
       all_goals
         go_meet
         refine ⟨zco ?_,zaj hb,(G.out.later hb).has⟩
         rw [E.out]
         try (first | (simp_all [inW];done) | (simp_all [inW];omega))
     · have E:=y16h (zw1 t n x y len)
       go_wp2_with (go_at_call 133;refine (Z _ _ _ _ _ _ _).out.mono ?_;rintro e w' ⟨rfl,hb⟩;have hg:=(G.out.later hb).cell)
       all_goals
         go_meet
         refine ⟨zco ?_,zaj hb,(G.out.later hb).has⟩
         rw [E.out]
         try (first | (simp_all [inW];done) | (simp_all [inW];omega))
     · have E:=y16h (zuq t n x y len)
       have f2:=zqp len
       go_wp2_with (go_at_call 133;refine (Z _ _ _ _ _ _ _).out.mono ?_;rintro e w' ⟨rfl,hb⟩;have hg:=(G.out.later hb).cell)
       all_goals
         go_meet
         refine ⟨zco ?_,zaj hb,(G.out.later hb).has⟩
         rw [E.out]
         try (first | (simp_all [inW];done) | (simp_all [inW];omega))
     · have E:=y16h (show Pr.partB op t n x y len = false by simp [Pr.partB,n1,n2,n3,n4,n5,n6,n7,n8,n9,n10])
       go_wp2_with fail
       all_goals
         go_meet
         exact ⟨zco E.out.symm,(Below.refl _ _).alloc (Nat.le_refl _) _,G.out.has⟩
   case rest =>
     obtain ⟨rfl,hh⟩:=hcut
     obtain ⟨hB,g0⟩:=Hid.out hh
     have HBW:=y16h hB
     clear hh hB HT HM
     generalize hb0:Pr.partB op t n x y len = b0
     have HP:=y16h hb0
     clear hb0
     go_wp2_with fail
     go_loopw [3,6] (fun ok i wr=>zzd kids len b0 wc ok i wr) (fun _ i _=>len - (intOf i).toNat)
     case atStart=>exact ⟨0,b0,Nat.zero_le _,rfl,rfl,by simp [Hid,Pr.alls],Below.refl _ _⟩
     case round =>
       obtain ⟨k,a,hk,rfl,rfl,HA,hb⟩:=hrel
       have g:=g0.below hb g0.lt
       by_cases hlt:k < len
       · obtain ⟨q,hq⟩:∃ q,kids[k]? = some q:=⟨_,List.getElem?_eq_getElem (by rw [HLEN.out];exact hlt)⟩
         obtain ⟨rfl,hB⟩:=HN.out (by omega)
         obtain ⟨oq,cq,hV⟩:=zal (HR.out k q hq)
         have hbw:Below w.heap.size w wr:=HBW.out.trans (hb.mono HBW.out.size)
         obtain ⟨c0,c1,c2,c3,c4⟩:=zcc (w:=wr) (fun j u hu=>(hbw.cell (p:=⟨b,o + k * 5 + j,none⟩) hB).trans (HC.out k q hq j u hu))
         have L0:=(HR.out k q hq).later hbw (Nat.le_refl _)
         rw [hV] at c4 L0
         have hqs:=Pr.size_mem (List.mem_of_getElem? hq)
         have CC:=y16h (HI.out q (List.mem_of_getElem? hq) (.slice oq q.kids.length cq) wr L0 (by omega))
         have h6:=Pr.alls_take hq
         have HA1:=y16h (show (a && q.all) = (b0 && Pr.alls (kids.take (k + 1))) by rw [h6,HA.out,Bool.and_assoc])
         have HB:=y16h hb
         clear hb hbw hq L0 h6 hV
         generalize q.all = qa at *
         have l:=g.cell
         have z:=g.lt
         clear g
         go_wp2_with (go_at_call 86;refine CC.out.mono ?_;rintro e w' ⟨rfl,hb'⟩)
         all_goals
           go_roundw
           case rel=>exact ⟨k + 1,a && qa,by omega,by go_num,by simp_all,HA1.out,HB.out.trans (hb'.mono HB.out.size)⟩
           case measure=>simp [intOf];omega
       · have HB:=y16h hb
         clear hb
         have l:=g.cell
         have z:=g.lt
         clear g
         have e:k = len:=by omega
         have h7:=HA.out
         rw [Pr.take_all kids (by rw [HLEN.out];omega)] at h7
         have HE:=y16h (show a = (Pr.node op t n x y kids).all by rw [h7];simp only [Pr.all];rw [HLEN.out,HP.out])
         clear h7 e
         go_wp2_with fail
         go_ret
         exact ⟨zaa HE.out,HBW.out.trans (HB.out.mono HBW.out.size)⟩
end Go.Proofs.YthnllikalobmeaaGreat
namespace Go.Proofs.YthnllikalobmeaaGreat
set_option linter.unusedVariables false
set_option linter.unusedSimpArgs false
set_option maxRecDepth 100000
set_option maxHeartbeats 8000000
open Go.ChangeShapes Go.WideShapes Go.ChangeAt Go.RowKit Go.Deep
section
variable {H:Type} {enc:TypeId × Value → H} {w:World} {base:Nat} {spare:Nat → Bool} {held:Bool} {fuel:Nat} {cs:List Value} {x:DataW H × List MemPlace}
end
end Go.Proofs.YthnllikalobmeaaGreat
