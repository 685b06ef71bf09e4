/- Joined: OpenL, RegM, RegD, Same. -/
import Derived.Test.YtodfhabkdaiopaaGreatJ15
import Derived.Test.YtodfhabkdaiopaaGreatJ04
import Derived.Deep.RegionHeld
import Derived.Below
import Derived.Test.YtodfhabkdaiopaaGreatJ16
namespace Go.Proofs.YtodfhabkdaiopaaGreat
set_option linter.unusedVariables false
set_option linter.unusedSimpArgs false
set_option maxRecDepth 100000
set_option maxHeartbeats 8000000
open Go.ChangeShapes Go.WideShapes Go.ChangeAt Go.RowKit Go.Deep
theorem y17h {p:Prop} (h:p):Go.RowKit.Hid p:=Lib.hid h
section
variable {H:Type} {enc:TypeId × Value→H} {w:World} {base:Nat} {spare:Nat→Bool} {held:Bool} {fuel:Nat} {cs:List Value} {x:DataW H × List MemPlace}
end
end Go.Proofs.YtodfhabkdaiopaaGreat
namespace Go.Proofs.YtodfhabkdaiopaaGreat
set_option linter.unusedVariables false
set_option linter.unusedSimpArgs false
set_option maxRecDepth 100000
set_option maxHeartbeats 8000000
open Go Go.RowKit
section
variable {P:Program} {ops:Array Oper} {Q:Exit→Act→World→Prop} {md:Region.Mode}
abbrev Later (w w':World):Prop:=Below w.heap.size w w'
theorem Later.on {a b c:World} (h1:Later a b) (h2:Later b c):Later a c:=h1.trans (h2.mono h1.size)
structure Reads (w w':World):Prop where
 size:w.heap.size≤w'.heap.size
 cell:∀ a:Addr,a.block < w.heap.size→w'.cell? a=w.cell? a
theorem Reads.of {w w':World} (h:Later w w'):Reads w w':=⟨h.size,fun a ha=>h.cell (p:=a) ha⟩
variable {R:World→World→Prop}
end
end Go.Proofs.YtodfhabkdaiopaaGreat
namespace Go.Proofs.YtodfhabkdaiopaaGreat
set_option linter.unusedVariables false
set_option linter.unusedSimpArgs false
set_option maxRecDepth 100000
set_option maxHeartbeats 8000000
open Go
section
variable {P:Program} {ops:Array Oper} {Q:Exit→Act→World→Prop} {md:Region.Mode} {S:World→Prop} {D:Nat→Bool}
def late (P:Program) (md:Region.Mode) (ops:Array Oper) (Q:Exit→Act→World→Prop) (S:World→Prop) (D:Nat→Bool) (fuel:Nat) (listed:Array Bool) (a:Act) (w:World):Prop :=
 match fuel with
 | 0=>Region.ready md ops listed=[]∧Q .normal a w
 | n + 1=>(Region.ready md ops listed=[]→Q .normal a w)∧∀ i∈Region.ready md ops listed,
     wpOp P ops Q i (fun a' w'=>(D i=false→S w')∧late P md ops Q S D n (listed.setIfInBounds i true) a' w') a w
def zlm (md:Region.Mode) (ops:Array Oper) (D:Nat→Bool) (i:Nat):Bool :=
 (List.range ops.size).all fun j=>!D j || (match ops[j]? with | some oj=>oj.after.any (fun e=>Region.binds md e && e.on == i) | none=>true)
theorem zq9 {i j:Nat} {oj:Oper} {l:Array Bool} (h:zlm md ops D i=true) (hj:j∈Region.ready md ops l) (hoj:ops[j]?=some oj) (hi:l.getD i true=false):D j=false:=by
 cases hd:D j with
 | false=>rfl
 | true =>
   exfalso
   have h1:=List.all_eq_true.1 h j (List.mem_range.2 (Array.getElem?_eq_some_iff.1 hoj).1)
   simp only [hd,hoj,Bool.not_true,Bool.false_or] at h1
   obtain ⟨e,he,hb⟩:=Array.any_eq_true'.1 h1
   simp only [Bool.and_eq_true,beq_iff_eq] at hb
   obtain ⟨_,o,ho,hall⟩:=mem_ready.1 hj
   rw [hoj] at ho
   cases ho
   have h2:=hall e he hb.1
   rw [hb.2] at h2
   rcases Nat.lt_or_ge i l.size with hl | hl
   · simp [hl] at hi h2;rw [hi] at h2;cases h2
   · simp [Array.getElem?_eq_none hl] at hi
end
end Go.Proofs.YtodfhabkdaiopaaGreat
namespace Go.Proofs.YtodfhabkdaiopaaGreat
set_option linter.unusedVariables false
set_option linter.unusedSimpArgs false
set_option maxRecDepth 100000
set_option maxHeartbeats 8000000
open Go.RowKit
theorem zhr (p:Pr) (v:Value) (w:World) (hL:LP w p v) (hsz:p.size≤1000) :
   Calls Tryz.prog 57 #[.agg #[.int .i64 p.op,.string p.text,.int .i64 p.n,.complex .f64 p.x p.y,v]] w fun e w'=>e=.returned (.bool p.mayB)∧Below w.heap.size w w':=by
 obtain ⟨oq,cq,rfl⟩:=zao hL
 have S:=fun w' h=>y17h (znj p (.slice oq p.kids.length cq) w' h hsz)
 have D:=fun w' h=>y17h (zl3 p (.slice oq p.kids.length cq) w' h hsz)
 have A:=fun w' h=>y17h (znf p (.slice oq p.kids.length cq) w' h hsz)
 have L0:=hL.atAlloc (.cells #[.int .i64 p.op,.string p.text,.int .i64 p.n,.complex .f64 p.x p.y,.slice oq p.kids.length cq] 32)
 have G0:=y17h (Own.new w #[.int .i64 p.op,.string p.text,.int .i64 p.n,.complex .f64 p.x p.y,.slice oq p.kids.length cq] 32)
 have L:=y17h L0
 clear hL L0
 have e:p.mayB=(decide ((p.size:Int)≤30) && (decide ((p.depth:Int)≤6) && p.all)):=rfl
 rw [e]
 clear e
 by_cases h1:(p.size:Int)≤30
 · by_cases h2:(p.depth:Int)≤6
   · rw [decide_eq_true h1,decide_eq_true h2,Bool.true_and,Bool.true_and]
     generalize p.all=pa at *
     go_enter Tryz.func57,Tryz.ntmps57
     go_wp2_with fail
     refine (S _ L.out).out.mono ?_;rintro e w1 ⟨rfl,hb1⟩
     have G1:=y17h (G0.out.later hb1)
     have L1:=y17h (L.out.later hb1 (Nat.le_refl _))
     have B1:=y17h (zai hb1)
     clear hb1
     have l1:=G1.out.cell
     go_wp2_with fail
     refine (D _ L1.out).out.mono ?_;rintro e w2 ⟨rfl,hb2⟩
     have G2:=y17h (G1.out.later hb2)
     have L2:=y17h (L1.out.later hb2 (Nat.le_refl _))
     have B2:=y17h (B1.out.trans (hb2.mono B1.out.size))
     clear hb2 l1
     have l2:=G2.out.cell
     go_wp2_with fail
     refine (A _ L2.out).out.mono ?_;rintro e w3 ⟨rfl,hb3⟩
     go_wp2_with fail
     go_ret
     exact ⟨rfl,B2.out.trans (hb3.mono B2.out.size)⟩
   · rw [decide_eq_true h1,decide_eq_false h2,Bool.true_and,Bool.false_and]
     go_enter Tryz.func57,Tryz.ntmps57
     go_wp2_with fail
     refine (S _ L.out).out.mono ?_;rintro e w1 ⟨rfl,hb1⟩
     have G1:=y17h (G0.out.later hb1)
     have L1:=y17h (L.out.later hb1 (Nat.le_refl _))
     have B1:=y17h (zai hb1)
     clear hb1
     have l1:=G1.out.cell
     go_wp2_with fail
     refine (D _ L1.out).out.mono ?_;rintro e w2 ⟨rfl,hb2⟩
     go_wp2_with fail
     go_ret
     exact ⟨rfl,B1.out.trans (hb2.mono B1.out.size)⟩
 · rw [decide_eq_false h1,Bool.false_and]
   go_enter Tryz.func57,Tryz.ntmps57
   go_wp2_with fail
   refine (S _ L.out).out.mono ?_;rintro e w1 ⟨rfl,hb1⟩
   go_wp2_with fail
   go_ret
   exact ⟨rfl,zai hb1⟩
abbrev LK (w:World) (l:List Pr) (v:Value):Prop:=LP w (.node 0 ⟨#[]⟩ 0 0 0 l) v
theorem zt6 {w:World} {p:Pr} {v:Value} (h:LP w p v):LK w p.kids v:=by
 cases h with
 | mk op t n x y kids oa cap b o V ht hl hc hn hcell hrec=>exact .mk _ _ _ _ _ kids oa cap b o V (by decide) hl hc hn hcell hrec
def z04 (l m:List Pr) (len:Nat) (w0:World) (i:Value) (wr:World):Prop :=
 ∃ k:Nat,k≤len∧i=.int .i64 k∧Hid (Pr.sames (l.take k) (m.take k)=true)∧Below w0.heap.size w0 wr
end Go.Proofs.YtodfhabkdaiopaaGreat
