/- Joined: OpenA, OpenV, OpenS, OpenK. -/
import Derived.Test.YthnllikalobmeaaGreatRows
import Derived.WalkKit
import Derived.ProofKit
import Derived.OpenShut
import Derived.ShutString
import Derived.ChangeOld
import Derived.Below
import Derived.Deep.Fields
import Derived.WalkLawsBesides
import Derived.Test.YthnllikalobmeaaGreatJ01
import Derived.Deep.Slices
import Derived.Test.YthnllikalobmeaaGreatJ09
namespace Go.Proofs.YthnllikalobmeaaGreat
set_option linter.unusedVariables false
set_option linter.unusedSimpArgs false
set_option maxRecDepth 100000
set_option maxHeartbeats 8000000
open Go.ChangeShapes Go.WideShapes Go.ChangeAt Go.RowKit Go.Deep
section
variable {H:Type} {enc:TypeId × Value → H} {P:Program} {w:World} {base:Nat} {spare:Nat → Bool} {held:Bool} {fuel:Nat} {t:TypeId} {cs:List Value} {x:DataW H × List MemPlace}
theorem zdc {k:FloatKind} (ht:P.underlying t = some (.float k)) (h:DataW.trod enc P w base spare held fuel t cs = some x):∃ n,cs = [.float k n]:=by
 cases fuel with
 | zero=>simp [DataW.trod] at h
 | succ n =>
   unfold DataW.trod at h
   rw [ht] at h
   split at h <;> simp_all
theorem zof {fs:Array Field} (hone:oneCellFields P fs = true) {n:Nat} {xs:List (DataW H × List MemPlace)} (hl:cs.length = fs.size) (hxl:xs.length = fs.size)
   (hf:∀ (i:Nat) (f:Field),fs[i]? = some f → DataW.trod enc P w base spare held n f.type ((cs.drop f.offset).take (P.cellsOf f.type)) = xs[i]?)
   (i:Nat) (f:Field) (hi:fs[i]? = some f):∃ c y,cs[i]? = some c ∧ DataW.trod enc P w base spare held n f.type [c] = some y:=by
 have hlt:i < fs.size:=(Array.getElem?_eq_some_iff.1 hi).1
 have h1:=hf i f hi
 obtain ⟨o,k⟩:=hone_of hone i f hi
 rw [o,k,List.drop_eq_getElem_cons (by omega)] at h1
 exact ⟨cs[i],xs[i]'(by omega),List.getElem?_eq_getElem (by omega),h1.trans (List.getElem?_eq_getElem (by omega))⟩
end
end Go.Proofs.YthnllikalobmeaaGreat
namespace Go.Proofs.YthnllikalobmeaaGreat
set_option linter.unusedVariables false
set_option linter.unusedSimpArgs false
set_option maxRecDepth 100000
set_option maxHeartbeats 8000000
open Go.ChangeShapes Go.WideShapes Go.ChangeAt Go.RowKit Go.Deep
section
variable {H:Type} {enc:TypeId × Value → H} {w:World} {base:Nat} {spare:Nat → Bool} {held:Bool} {fuel:Nat} {cs:List Value} {x:DataW H × List MemPlace}
theorem zp3 (h:DataW.trod enc Tryz.prog w base spare held fuel 28 cs = some x):∃ A:Nat → Int,cs = (arr8 A).toList:=by
 obtain ⟨xs,n,_,ex,hl,hlen,hel⟩:=DataW.trod_array Tryz.underlying28 h
 have hl':cs.length = 8:=hl.trans (by kernel_rfl)
 have hc:Tryz.prog.cellsOf 3 = 1:=by kernel_rfl
 have F:∀ i,i < 8 → ∃ z:Int,cs[i]? = some (.int .i64 z):=by
   intro i hi
   have h1:=hel i hi
   rw [hc,Nat.mul_one,List.drop_eq_getElem_cons (by omega)] at h1
   have h2:xs[i]? = some (xs[i]'(by omega)):=List.getElem?_eq_getElem (by omega)
   obtain ⟨z,k,_⟩:=DataW.trod_int Tryz.underlying3 (h1.trans h2)
   simp only [List.take_succ_cons,List.take_zero,List.cons.injEq,and_true] at k
   exact ⟨z,by rw [List.getElem?_eq_getElem (by omega),k]⟩
 have G:∃ A:Nat → Int,∀ i,i < 8 → cs[i]? = some (.int .i64 (A i)) :=
   ⟨fun i=>if h:i < 8 then Classical.choose (F i h) else 0,fun i hi=>by simp only [dif_pos hi];exact Classical.choose_spec (F i hi)⟩
 obtain ⟨A,hA⟩:=G
 refine ⟨A,List.ext_getElem? fun i=>?_⟩
 by_cases hi:i < 8
 · rw [hA i hi,Array.getElem?_toList,zbo A hi]
 · rw [List.getElem?_eq_none (by omega),List.getElem?_eq_none (by simp;omega)]
end
end Go.Proofs.YthnllikalobmeaaGreat
namespace Go.Proofs.YthnllikalobmeaaGreat
set_option linter.unusedVariables false
set_option linter.unusedSimpArgs false
set_option maxRecDepth 100000
set_option maxHeartbeats 8000000
open Go.ChangeShapes Go.WideShapes Go.ChangeAt Go.RowKit Go.Deep
theorem zip {a:Addr} (h:a.spot = none) (n:Nat):a.add n = ⟨a.block,a.off + n,none⟩:=by
 obtain ⟨b,o,s⟩:=a
 simp only at h;subst h
 unfold Addr.add;split <;> simp_all
theorem zjj {a:Addr} (h:a.spot = none):a = ⟨a.block,a.off,none⟩:=by
 obtain ⟨b,o,s⟩:=a
 simp only at h;subst h;rfl
theorem zdr {α:Type} (P:Nat → α) {n i:Nat} {q:α} (h:((List.range n).map P)[i]? = some q):i < n ∧ q = P i:=by
 rw [List.getElem?_map] at h
 cases e:(List.range n)[i]? with
 | none=>rw [e] at h;cases h
 | some k =>
   rw [e] at h
   obtain ⟨h1,h2⟩:=List.getElem?_eq_some_iff.1 e
   simp at h1 h2 h
   subst h2
   exact ⟨h1,h.symm⟩
section
variable {H:Type} {enc:TypeId × Value → H} {w:World} {base:Nat} {spare:Nat → Bool} {held:Bool} {fuel:Nat} {cs:List Value} {x:DataW H × List MemPlace}
theorem ztf (h:DataW.trod enc Tryz.prog w base spare held fuel 103 cs = some x):∃ (l:List ByteArray) (v:Value),cs = [v] ∧ TxW w l v:=by
 rcases open_slice1 Tryz.underlying103 (by kernel_rfl) h with ⟨rfl,_⟩ | ⟨a,len,cap,m,n,V,D,Pl,rfl,_,hl,hm,hmm,_,hx⟩
 · exact ⟨[],_,rfl,none,0,0,0,rfl,Nat.le_refl _,by decide,fun h=>absurd h (by simp),fun k s hk=>by simp at hk,fun s hs=>by simp at hs⟩
 · have hlm:len ≤ m:=by rw [hmm];split <;> omega
   have key:∀ i,i < len → ∃ s:ByteArray,V i = .string s ∧ s.size ≤ maxLen:=by
     intro i hi
     obtain ⟨s,k,_,z⟩:=DataW.trod_string Tryz.underlying9 (hx i (by omega)).2
     simp only [List.cons.injEq,and_true] at k
     exact ⟨s,k,z⟩
   classical
   let S:Nat → ByteArray:=fun i=>if h:i < len then (key i h).choose else ⟨#[]⟩
   have hS:∀ i,i < len → V i = .string (S i) ∧ (S i).size ≤ maxLen:=by
     intro i hi
     simp only [S,dif_pos hi]
     exact (key i hi).choose_spec
   have hlk:((List.range len).map S).length = len:=by simp
   have hs:0 < len → a.spot = none ∧ a.block < w.heap.size:=by
     intro h0
     have h1:=(hx 0 (by omega)).1
     have e:a.add 0 = a:=by simp [Addr.add]
     rw [e] at h1
     exact ⟨World.cell?_spot h1,World.block_lt_of_cell? w _ h1⟩
   refine ⟨(List.range len).map S,_,rfl,some a,cap,a.block,a.off,by rw [hlk],by rw [hlk];exact hl,hm,fun h=>?_,fun k s hk=>?_,fun s hs=>?_⟩
   · rw [hlk] at h
     exact ⟨congrArg some (zjj (hs h).1),(hs h).2⟩
   · obtain ⟨hk',rfl⟩:=zdr S hk
     rw [← zip (hs (by omega)).1,(hx k (by omega)).1,(hS k hk').1]
   · obtain ⟨k,hk,e⟩:=List.mem_iff_getElem.1 hs
     obtain ⟨hk,rfl⟩:=zdr S (by rw [List.getElem?_eq_getElem hk,e])
     exact (hS k hk).2
theorem zvq (h:DataW.trod enc Tryz.prog w base spare held fuel 105 cs = some x):∃ (f:Fr) (u:Value),cs = fc f u ∧ TxW w f.ids u:=by
 obtain ⟨xs,n,hn,hx,hl,hxl,hf⟩:=DataW.trod_struct Tryz.underlying105 h
 have hl':cs.length = 9:=hl.trans (by kernel_rfl)
 have hxl':xs.length = 2:=hxl.trans (by kernel_rfl)
 have h0:DataW.trod enc Tryz.prog w base spare held n 103 ((cs.drop 0).take (Tryz.prog.cellsOf 103)) = xs[0]?:=hf 0 _ rfl
 have h1:DataW.trod enc Tryz.prog w base spare held n 28 ((cs.drop 1).take (Tryz.prog.cellsOf 28)) = xs[1]?:=hf 1 _ rfl
 rw [show Tryz.prog.cellsOf 103 = 1 by kernel_rfl,List.getElem?_eq_getElem (by omega)] at h0
 rw [show Tryz.prog.cellsOf 28 = 8 by kernel_rfl,List.getElem?_eq_getElem (by omega)] at h1
 match cs,hl' with
 | [c0,c1,c2,c3,c4,c5,c6,c7,c8],_ =>
   obtain ⟨l,v,e,ht⟩:=ztf h0
   obtain ⟨A,e'⟩:=zp3 h1
   simp at e e'
   obtain ⟨e1,e2,e3,e4,e5,e6,e7,e8⟩:=e'
   subst e e1 e2 e3 e4 e5 e6 e7 e8
   exact ⟨⟨l,A⟩,_,rfl,ht⟩
theorem zte (h:DataW.trod enc Tryz.prog w base spare held fuel 29 cs = some x):∃ (l:List Fr) (v:Value),cs = [v] ∧ FrW w l v:=by
 rcases open_slice Tryz.underlying29 h with ⟨rfl,_⟩ | ⟨a,len,cap,m,n,D,Pl,rfl,_,hl,hm,hmm,_,hx⟩
 · exact ⟨[],_,rfl,fun _=>.nilFunc,none,0,0,0,rfl,Nat.le_refl _,by decide,fun h=>absurd h (by simp),fun k f hk=>by simp at hk,fun k f hk=>by simp at hk⟩
 · have hlm:len ≤ m:=by rw [hmm];split <;> omega
   have hC:Tryz.prog.cellsOf 105 = 9:=by kernel_rfl
   rw [hC] at hx
   have key:∀ i,i < len → ∃ (f:Fr) (u:Value),(∀ j z,(fc f u)[j]? = some z → w.cell? (a.add (i * 9 + j)) = some z) ∧ TxW w f.ids u:=by
     intro i hi
     obtain ⟨cs',h2,h3⟩:=hx i (by omega)
     obtain ⟨_,hcl,hat⟩:=World.cells?_some h2
     obtain ⟨f,u,rfl,ht⟩:=zvq h3
     refine ⟨f,u,fun j z hz=>?_,ht⟩
     have hj:j < 9:=(List.getElem?_eq_some_iff.1 hz).1
     rw [← Go.Deep.add_add,hat j hj,hz]
   classical
   let F:Nat → Fr:=fun i=>if h:i < len then (key i h).choose else ⟨[],zad⟩
   let U:Nat → Value:=fun i=>if h:i < len then (key i h).choose_spec.choose else .nilFunc
   have hFU:∀ i,i < len → (∀ j z,(fc (F i) (U i))[j]? = some z → w.cell? (a.add (i * 9 + j)) = some z) ∧ TxW w (F i).ids (U i):=by
     intro i hi
     have:=(key i hi).choose_spec.choose_spec
     simp only [F,U,dif_pos hi]
     exact this
   have hlk:((List.range len).map F).length = len:=by simp
   have hs:0 < len → a.spot = none ∧ a.block < w.heap.size:=by
     intro h0
     have h1:=(hFU 0 h0).1 0 _ rfl
     have e:a.add (0 * 9 + 0) = a:=by simp [Addr.add]
     rw [e] at h1
     exact ⟨World.cell?_spot h1,World.block_lt_of_cell? w _ h1⟩
   refine ⟨(List.range len).map F,_,rfl,U,some a,cap,a.block,a.off,by rw [hlk],by rw [hlk];exact hl,hm,fun h=>?_,fun k f hk j z hz=>?_,fun k f hk=>?_⟩
   · rw [hlk] at h
     exact ⟨congrArg some (zjj (hs h).1),(hs h).2⟩
   · obtain ⟨hk',rfl⟩:=zdr F hk
     have h1:=(hFU k hk').1 j z hz
     rw [zip (hs (by omega)).1] at h1
     rw [Nat.add_assoc];exact h1
   · obtain ⟨hk',rfl⟩:=zdr F hk
     exact (hFU k hk').2
end
end Go.Proofs.YthnllikalobmeaaGreat
