/- Joined: RefBey, ItemM, OpenL, SizeB. -/
import Derived.Test.YthnllikalobmeaaGreatJ10
import Derived.Test.YthnllikalobmeaaGreatJ02
import Derived.Test.YthnllikalobmeaaGreatJ04
import Derived.Test.YthnllikalobmeaaGreatJ08
namespace Go.Proofs.YthnllikalobmeaaGreat
set_option linter.unusedVariables false
set_option linter.unusedSimpArgs false
set_option maxRecDepth 100000
set_option maxHeartbeats 8000000
open Go.RowKit
structure BySt (w:World) (X Z V:Array Value) (wr:World):Prop where
 o1:Own wr w.heap.size X 31
 o2:Own wr (w.heap.size + 1) Z 28
 o3:Own wr (w.heap.size + 1 + 1) V 28
 bel:Below w.heap.size w wr
theorem BySt.later {w wr w':World} {X Z V:Array Value} (h:BySt w X Z V wr) (hb:Below wr.heap.size wr w'):BySt w X Z V w' :=
 ⟨h.o1.later hb,h.o2.later hb,h.o3.later hb,h.bel.trans (hb.mono h.bel.size)⟩
def mayT (i:Itm):Bool:=mayI i.id i.r i.c i.st i.kd i.num i.x i.y
def cmpT (a b:Itm):Int:=cmpV a.st a.r a.c b.st b.r b.c
def behT (a b:Itm):Bool:=decide (cmpT a b = 1)
def zbx (a b:Itm):Bool:=zlk a.id a.r a.c a.st a.kd a.num a.x a.y a.d b.id b.r b.c b.st b.kd b.num b.x b.y b.d
theorem zec {i:Itm} (hx:feq i.x i.x = true) (hy:feq i.y i.y = true):zbx i i = true:=by
 unfold zbx zlk
 simp [hx,hy]
theorem zdq {i:Itm} (h:mayT i = true):feq i.x i.x = true ∧ feq i.y i.y = true:=by
 unfold mayT mayI mayB at h
 simp only [Bool.and_eq_true] at h
 exact ⟨zfv h.2.2.2.2.2.1,zfv h.2.2.2.2.2.2⟩
theorem zo1 (a b:Itm) (w:World) :
   Calls Tryz.prog 105 #[iV a,iV b] w fun e w'=>e = .returned (.bool (behT a b)) ∧ Below w.heap.size w w' :=
 zlq a.id a.r a.c a.st a.kd a.num a.x a.y a.d b.id b.r b.c b.st b.kd b.num b.x b.y b.d w
theorem zdx (a b:Itm) (w:World) :
   Calls Tryz.prog 59 #[iV a,iV b] w fun e w'=>e = .returned (.bool (zbx a b)) ∧ Below w.heap.size w w' :=
 zld a.id a.r a.c a.st a.kd a.num a.x a.y a.d b.id b.r b.c b.st b.kd b.num b.x b.y b.d w
end Go.Proofs.YthnllikalobmeaaGreat
namespace Go.Proofs.YthnllikalobmeaaGreat
set_option linter.unusedVariables false
set_option linter.unusedSimpArgs false
set_option maxRecDepth 100000
set_option maxHeartbeats 8000000
open Go.ChangeShapes Go.WideShapes Go.ChangeAt Go.RowKit Go.Deep
section
variable {H:Type} {enc:TypeId × Value → H} {w:World} {base:Nat} {spare:Nat → Bool} {held:Bool} {fuel:Nat} {cs:List Value} {x:DataW H × List MemPlace}
theorem zky (h:DataW.trod enc Tryz.prog w base spare held fuel 26 cs = some x):∃ (l:List Itm) (v:Value),cs = [v] ∧ Row 9 rc w l v:=by
 rcases open_slice Tryz.underlying26 h with ⟨rfl,_⟩ | ⟨a,len,cap,m,n,D,Pl,rfl,_,hl,hm,hmm,_,hx⟩
 · exact ⟨[],_,rfl,none,0,0,0,rfl,Nat.le_refl _,by decide,fun h=>absurd h (by simp),fun k f hk=>by simp at hk,fun i hi=>by simp at hi⟩
 · have hlm:len ≤ m:=by rw [hmm];split <;> omega
   have hC:Tryz.prog.cellsOf 115 = 9:=by kernel_rfl
   rw [hC] at hx
   have key:∀ i,i < len → ∃ (f:Itm),(∀ j z,(rc f)[j]? = some z → w.cell? (a.add (i * 9 + j)) = some z) ∧ f.id.size ≤ maxLen ∧ f.kd.size ≤ maxLen:=by
     intro i hi
     obtain ⟨cs',h2,h3⟩:=hx i (by omega)
     obtain ⟨_,hcl,hat⟩:=World.cells?_some h2
     obtain ⟨id,r,c,st,kd,n,x,y,d,rfl,h4,h5,_⟩:=zt8 h3
     refine ⟨⟨id,r,c,st,kd,n,x,y,d⟩,fun j z hz=>?_,h4,h5⟩
     have hj:j < 9:=(List.getElem?_eq_some_iff.1 hz).1
     rw [← Go.Deep.add_add,hat j hj,hz]
   classical
   let F:Nat → Itm:=fun i=>if h:i < len then (key i h).choose else Itm.zero
   have hF:∀ i,i < len → (∀ j z,(rc (F i))[j]? = some z → w.cell? (a.add (i * 9 + j)) = some z) ∧ (F i).id.size ≤ maxLen ∧ (F i).kd.size ≤ maxLen:=by
     intro i hi
     have:=(key i hi).choose_spec
     simp only [F,dif_pos hi]
     exact this
   have hlk:((List.range len).map F).length = len:=by simp
   have hs:0 < len → a.spot = none ∧ a.block < w.heap.size:=by
     intro h0
     have h1:=(hF 0 h0).1 0 _ rfl
     have e:a.add (0 * 9 + 0) = a:=by simp [Addr.add]
     rw [e] at h1
     exact ⟨World.cell?_spot h1,World.block_lt_of_cell? w _ h1⟩
   refine ⟨(List.range len).map F,_,rfl,some a,cap,a.block,a.off,by rw [hlk],by rw [hlk];exact hl,hm,fun h=>?_,fun k f hk j z hz=>?_,fun f hf=>?_⟩
   · rw [hlk] at h
     exact ⟨congrArg some (zhy (hs h).1),(hs h).2⟩
   · obtain ⟨hk',rfl⟩:=zda F hk
     have h1:=(hF k hk').1 j z hz
     rw [zha (hs (by omega)).1] at h1
     rw [Nat.add_assoc];exact h1
   · obtain ⟨k,hk,e⟩:=List.mem_iff_getElem.1 hf
     obtain ⟨hk',rfl⟩:=zda F (by rw [List.getElem?_eq_getElem hk,e])
     exact (hF k hk').2
end
end Go.Proofs.YthnllikalobmeaaGreat
namespace Go.Proofs.YthnllikalobmeaaGreat
set_option linter.unusedVariables false
set_option linter.unusedSimpArgs false
set_option maxRecDepth 100000
set_option maxHeartbeats 8000000
open Go.RowKit
theorem zam {sz:Nat} {c:Pr → Value → List Value} {S:Nat → Prop} {w:World} {p:Pr} {v:Value} (h:Lies sz c S w p v):∃ oa cap,v = .slice oa p.kids.length cap:=by
 obtain ⟨oa,cap,_,_,_,rfl,_⟩:=zbh h;exact ⟨oa,cap,rfl⟩
end Go.Proofs.YthnllikalobmeaaGreat
