/- Joined: RcvPlayM. -/
import Derived.Test.YtodfhabkdaiopaaGreatJ51
import Derived.Test.YtodfhabkdaiopaaGreatJ48
import Derived.Test.YtodfhabkdaiopaaGreatJ40
import Derived.Test.YtodfhabkdaiopaaGreatJ37
import Derived.Test.YtodfhabkdaiopaaGreatJ31
namespace Go.Proofs.YtodfhabkdaiopaaGreat
set_option linter.unusedVariables false
set_option linter.unusedSimpArgs false
set_option maxRecDepth 100000
set_option maxHeartbeats 8000000
open Go.RowKit
def oldR (s:St) (x:Rd):Int × Int:=if (getI s.store x.z.id).2=true∧x.n.tmod 2=0 then ((getI s.store x.z.id).1.r,(getI s.store x.z.id).1.c) else (x.r,x.c)
def zdu (s:St) (x:Rd):St :=
 if za4 x.what=0 ∨ za4 x.what=1 then zax s x.z
 else if za4 x.what=2 then zb0 s x.z.id (oldR s x).1 (oldR s x).2 x.r2 x.q2
 else doS s x.d
def zd1 (r:Int) (f:Pr) (l:List Rd) (k:Nat):St:=(l.take k).foldl zdu (newS r f)
theorem zk5 {r:Int} {f:Pr} {l:List Rd} {k:Nat} {x:Rd} (h:l[k]?=some x):zd1 r f l (k + 1)=zdu (zd1 r f l k) x:=by
 unfold zd1
 rw [List.take_add_one,h,List.foldl_append];rfl
theorem zlj {s:St} {x:Rd} (h:za4 x.what=0 ∨ za4 x.what=1):zdu s x=zax s x.z:=by unfold zdu;rw [if_pos h]
theorem zsm {s:St} {x:Rd} (h:za4 x.what=2):zdu s x=zb0 s x.z.id (oldR s x).1 (oldR s x).2 x.r2 x.q2:=by unfold zdu;rw [if_neg (by omega),if_pos h]
theorem zxh {s:St} {x:Rd} (h:za4 x.what=3):zdu s x=doS s x.d:=by unfold zdu;rw [if_neg (by omega),if_neg (by omega)]
theorem zsn {s:St} (h:Good s) (x:Rd):Good (zdu s x):=by
 unfold zdu
 split
 · exact zif h
 · split
   · exact zmi h
   · exact zqm h x.d
theorem zsl {s:St} (h:Good s) (x:Rd) {n:Nat} (h0:40≤n) (h1:(zaf s.k.l).length≤n) (h2:s.k.l.length≤n):(zaf (zdu s x).k.l).length≤n + 1∧(zdu s x).k.l.length≤n + 1:=by
 unfold zdu
 split
 · have:=zur (x:=x.z) h;omega
 · split
   · have:=ztt (id:=x.z.id) (r:=(oldR s x).1) (c:=(oldR s x).2) (r2:=x.r2) (q2:=x.q2) h;omega
   · by_cases hE:doE s x.d=0
     · obtain ⟨h4,h5⟩:=zyl h hE
       omega
     · rw [zz5 hE]
       omega
theorem zr7 {r:Int} {f:Pr} (h:zdd r f=true) (l:List Rd):∀ k,Good (zd1 r f l k)∧(zaf (zd1 r f l k).k.l).length≤40 + k∧(zd1 r f l k).k.l.length≤40 + k:=by
 intro k
 induction k with
 | zero=>exact ⟨zj3 h,by show (zaf ([]:List Fr)).length≤40;simp [zaf],by show ([]:List Fr).length≤40;simp⟩
 | succ k ih =>
   obtain ⟨h1,h2,h3⟩:=ih
   cases hx:l[k]? with
   | none =>
     have e:zd1 r f l (k + 1)=zd1 r f l k:=by
       unfold zd1
       rw [List.take_add_one,hx];simp
     rw [e]
     exact ⟨h1,by omega,by omega⟩
   | some x =>
     rw [zk5 hx]
     exact ⟨zsn h1 x,zsl (n:=40 + k) h1 x (Nat.le_add_right _ _) h2 h3⟩
theorem zr2 {p:Pr} (h:p.mayB=true):p.size≤30:=by
 unfold Pr.mayB Pr.fitsB at h
 simp only [Bool.and_eq_true,decide_eq_true_eq] at h
 omega
theorem zpx {s:St} {n:Nat} (h:Good s) (h1:(zaf s.k.l).length≤n) (h2:s.k.l.length≤n) (hn:n≤1000):StB s :=
 ⟨Nat.le_trans (zr2 h.f) (by decide),by have:=h.n;omega,by have:=h.n;omega,by omega,by omega⟩
section
variable {T:Nat→Prop} {w w' x:World} {s U:St} {fv sv ov kv fv' sv' ov' kv':Value} {B:Nat}
theorem zxl (h:StW w s fv sv ov kv) (hT:∀ b,T b→w.heap.size≤b):Sure T w fun w=>StW w s fv sv ov kv:=fun _ h2 =>
 h.blocks h2.size fun k hk=>h2.blk k hk fun ht=>by have:=hT k ht;omega
theorem zf5 (h:Sure T x fun w=>StW w s fv sv ov kv) (hn:StN w' B s.f fv s.store sv s.out ov s.k.l kv U fv' sv' ov' kv') (hx:Below x.heap.size x w') (hT:∀ b,T b→b < B):Sure T w' fun w=>StW w U fv' sv' ov' kv':=fun W hW=>by
 have h0:=h.later hx W hW
 obtain ⟨h1,h2,h3,h4⟩:=hn
 refine ⟨?_,?_,?_,?_⟩
 · rcases h1 with ⟨e,rfl⟩ | h1
   · rw [e];exact h0.lf
   · exact h1.sure.mono hT W hW
 · rcases h2 with ⟨e,rfl⟩ | h2
   · rw [e];exact h0.ls
   · exact h2.sure.mono hT W hW
 · rcases h3 with ⟨e,rfl⟩ | h3
   · rw [e];exact h0.lo
   · exact h3.sure.mono hT W hW
 · rcases h4 with ⟨e,rfl⟩ | h4
   · rw [e];exact h0.lk
   · exact h4.sure.mono hT W hW
theorem zxk {r:Int} {f:Pr} {v:Value} (h:LPF w B f v) (hT:∀ j,T j→j < B ∨ w.heap.size≤j):Sure T w fun w=>StW w (newS r f) v (.slice none 0 0) (.slice none 0 0) (.slice none 0 0):=fun W hW =>
 ⟨h.mono (fun j o hS=>World.cell?_of_block (hW.blk j hS.2 fun ht=>by have:=hT j ht;have:=hS.1;have:=hS.2;omega)) fun _ hS=>Nat.lt_of_lt_of_le hS.2 hW.size,zhb W,zhb W,zqq W⟩
theorem Own.butSets {b:Nat} {A:Array Value} {t:TypeId} (_:Own w b A t) (vs:List Value):But (fun j=>j=b) w (w.setCells b 0 vs):=But.sets (T:=fun j=>j=b) (b:=b) rfl vs 0
end
end Go.Proofs.YtodfhabkdaiopaaGreat
