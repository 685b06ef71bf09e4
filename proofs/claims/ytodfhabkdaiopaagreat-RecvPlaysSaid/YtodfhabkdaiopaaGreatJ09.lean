/- Joined: Pr, PlSt, ListM, FarA. -/
import Derived.Test.YtodfhabkdaiopaaGreatJ05
import Derived.Test.YtodfhabkdaiopaaGreatJ07
import Derived.OneCell
import Derived.Below
import Derived.Test.YtodfhabkdaiopaaGreatJ06
import Derived.Test.YtodfhabkdaiopaaGreatJ08
namespace Go.Proofs.YtodfhabkdaiopaaGreat
set_option linter.unusedVariables false
set_option linter.unusedSimpArgs false
set_option maxRecDepth 100000
set_option maxHeartbeats 8000000
inductive Pr where
 | node (op:Int) (text:ByteArray) (n:Int) (x y:Nat) (kids:List Pr)
namespace Pr
def op:Pr→Int | node o _ _ _ _ _=>o
def text:Pr→ByteArray | node _ t _ _ _ _=>t
def n:Pr→Int | node _ _ n _ _ _=>n
def x:Pr→Nat | node _ _ _ x _ _=>x
def y:Pr→Nat | node _ _ _ _ y _=>y
def kids:Pr→List Pr | node _ _ _ _ _ k=>k
theorem op_node (a:Int) (t:ByteArray) (c:Int) (d e:Nat) (k:List Pr):(node a t c d e k).op=a:=rfl
theorem text_node (a:Int) (t:ByteArray) (c:Int) (d e:Nat) (k:List Pr):(node a t c d e k).text=t:=rfl
theorem n_node (a:Int) (t:ByteArray) (c:Int) (d e:Nat) (k:List Pr):(node a t c d e k).n=c:=rfl
theorem x_node (a:Int) (t:ByteArray) (c:Int) (d e:Nat) (k:List Pr):(node a t c d e k).x=d:=rfl
theorem y_node (a:Int) (t:ByteArray) (c:Int) (d e:Nat) (k:List Pr):(node a t c d e k).y=e:=rfl
theorem kids_node (a:Int) (t:ByteArray) (c:Int) (d e:Nat) (k:List Pr):(node a t c d e k).kids=k:=rfl
theorem ind {P:Pr→Prop} (h:∀ op text n x y kids,(∀ k∈kids,P k)→P (node op text n x y kids)):∀ p,P p
 | node op text n x y kids=>h op text n x y kids (go kids)
where
 go:∀ l:List Pr,∀ k∈l,P k
   | [],k,hk=>absurd hk List.not_mem_nil
   | a :: l,k,hk=>by
     rcases List.mem_cons.1 hk with e | hk
     · rw [e];exact ind h a
     · exact go l k hk
mutual
def size:Pr→Nat | node _ _ _ _ _ k=>1 + sizes k
def sizes:List Pr→Nat | []=>0 | k :: l=>size k + sizes l
end
mutual
def depth:Pr→Nat | node _ _ _ _ _ k=>1 + depths k
def depths:List Pr→Nat | []=>0 | k :: l=>max (depth k) (depths l)
end
def bareB (t:ByteArray) (n:Int) (x y:Nat) (k:Nat):Bool:=decide (t.toList=[]) && (decide (n=0) && ((feq x 0 && feq y 0) && decide (k=0)))
def partB (op:Int) (t:ByteArray) (n:Int) (x y:Nat) (k:Nat):Bool :=
 if op=1 ∨ op=2 then bareB t n x y k
 else if op=3 ∨ op=4 then txtB t && bareB ⟨#[]⟩ n x y k
 else if op=5 ∨ op=6 then (decide (-1000000≤n) && decide (n≤1000000)) && bareB t 0 x y k
 else if op=7 then (mayB x y && (decide (0≤n) && decide (n≤8000000))) && bareB t 0 0 0 k
 else if op=8 ∨ op=9 then bareB t n x y 0
 else if op=10 then decide (k=1) && bareB t n x y 0
 else false
mutual
def all:Pr→Bool | node op t n x y k=>partB op t n x y k.length && alls k
def alls:List Pr→Bool | []=>true | k :: l=>all k && alls l
end
def fitsB (p:Pr) (s d:Int):Bool:=decide ((p.size:Int)≤s) && (decide ((p.depth:Int)≤d) && p.all)
def mayB (p:Pr):Bool:=p.fitsB 30 6
mutual
def same:Pr→Pr→Bool
 | node op t n x y k,node op' t' n' x' y' k'=>decide (op=op') && (decide (t.toList=t'.toList) && (decide (n=n') && ((feq x x' && feq y y') && sames k k')))
def sames:List Pr→List Pr→Bool
 | [],[]=>true
 | k :: l,k' :: l'=>same k k' && sames l l'
 | _,_=>false
end
theorem size_pos (p:Pr):1≤p.size:=by cases p;simp [size]
theorem sizes_append (l m:List Pr):sizes (l ++ m)=sizes l + sizes m:=by
 induction l with
 | nil=>simp [sizes]
 | cons k l ih=>simp [sizes,ih];omega
theorem zhl (l m:List Pr):depths (l ++ m)=max (depths l) (depths m):=by
 induction l with
 | nil=>simp [depths]
 | cons k l ih=>simp [depths,ih]
theorem zpo (l m:List Pr):alls (l ++ m)=(alls l && alls m):=by
 induction l with
 | nil=>simp [alls]
 | cons k l ih=>simp [alls,ih,Bool.and_assoc]
theorem len_le_sizes (l:List Pr):l.length≤sizes l:=by
 induction l with
 | nil=>simp
 | cons k l ih=>simp [sizes];have:=size_pos k;omega
theorem size_mem {l:List Pr} {k:Pr} (h:k∈l):k.size≤sizes l:=by
 induction l with
 | nil=>simp at h
 | cons a l ih =>
   simp only [sizes]
   rcases List.mem_cons.1 h with rfl | h
   · omega
   · have:=ih h;omega
theorem depth_mem {l:List Pr} {k:Pr} (h:k∈l):k.depth≤depths l:=by
 induction l with
 | nil=>simp at h
 | cons a l ih =>
   simp only [depths]
   rcases List.mem_cons.1 h with rfl | h
   · omega
   · have:=ih h;omega
theorem all_mem {l:List Pr} {k:Pr} (h:k∈l) (ha:alls l=true):k.all=true:=by
 induction l with
 | nil=>simp at h
 | cons a l ih =>
   simp only [alls,Bool.and_eq_true] at ha
   rcases List.mem_cons.1 h with rfl | h
   · exact ha.1
   · exact ih h ha.2
theorem depth_le_size:∀ p:Pr,p.depth≤p.size:=by
 intro p
 induction p using ind with
 | h op t n x y k ih =>
   simp only [depth,size]
   have:depths k≤sizes k:=by
     induction k with
     | nil=>simp [depths]
     | cons a l ihl =>
       have h1:=ih a (by simp)
       have h2:=ihl fun b hb=>ih b (by simp [hb])
       simp only [depths,sizes];omega
   omega
theorem take_one {l:List Pr} {k:Nat} {p:Pr} (hp:l[k]?=some p):l.take (k + 1)=l.take k ++ [p]:=by
 obtain ⟨hk,e⟩:=List.getElem?_eq_some_iff.1 hp
 rw [List.take_succ_eq_append_getElem hk,e]
theorem sizes_take {l:List Pr} {k:Nat} {p:Pr} (hp:l[k]?=some p):sizes (l.take (k + 1))=sizes (l.take k) + p.size:=by
 rw [take_one hp,sizes_append];simp [sizes]
theorem depths_take {l:List Pr} {k:Nat} {p:Pr} (hp:l[k]?=some p):depths (l.take (k + 1))=max (depths (l.take k)) p.depth:=by
 rw [take_one hp,zhl];simp [depths]
theorem alls_take {l:List Pr} {k:Nat} {p:Pr} (hp:l[k]?=some p):alls (l.take (k + 1))=(alls (l.take k) && p.all):=by
 rw [take_one hp,zpo];simp [alls]
theorem sizes_take_le (l:List Pr) (k:Nat):sizes (l.take k)≤sizes l:=by
 have h:=sizes_append (l.take k) (l.drop k)
 rw [List.take_append_drop] at h;omega
theorem depths_take_le (l:List Pr) (k:Nat):depths (l.take k)≤depths l:=by
 have h:=zhl (l.take k) (l.drop k)
 rw [List.take_append_drop] at h;omega
theorem take_all (l:List Pr) {k:Nat} (h:l.length≤k):l.take k=l:=List.take_of_length_le h
theorem zmx:∀ {l m:List Pr},sames l m=true→l.length=m.length
 | [],[],_=>rfl
 | [],_ :: _,h=>by simp [sames] at h
 | _ :: _,[],h=>by simp [sames] at h
 | a :: l,b :: m,h=>by
   simp only [sames,Bool.and_eq_true] at h
   simp [zmx h.2]
theorem sames_not_len {l m:List Pr} (h:l.length ≠ m.length):sames l m=false:=by
 cases e:sames l m with
 | false=>rfl
 | true=>exact absurd (zmx e) h
theorem sames_at {l m:List Pr} {k:Nat} {p q:Pr} (hp:l[k]?=some p) (hq:m[k]?=some q) (h:same p q=false):sames l m=false:=by
 induction l generalizing m k with
 | nil=>simp at hp
 | cons a l ih =>
   cases m with
   | nil=>simp at hq
   | cons b m =>
     cases k with
     | zero =>
       simp at hp hq;subst hp hq;simp [sames,h]
     | succ k =>
       simp at hp hq
       simp [sames,ih hp hq]
theorem sames_take {l m:List Pr} {k:Nat} {p q:Pr} (hp:l[k]?=some p) (hq:m[k]?=some q) (h0:sames (l.take k) (m.take k)=true) (h:same p q=true):sames (l.take (k + 1)) (m.take (k + 1))=true:=by
 induction l generalizing m k with
 | nil=>simp at hp
 | cons a l ih =>
   cases m with
   | nil=>simp at hq
   | cons b m =>
     cases k with
     | zero =>
       simp at hp hq;subst hp hq;simp [sames,h]
     | succ k =>
       simp at hp hq
       simp only [List.take_succ_cons,sames,Bool.and_eq_true] at h0 ⊢
       exact ⟨h0.1,ih hp hq h0.2⟩
theorem zb1 {t:ByteArray} {n:Int} {x y k:Nat} (h:bareB t n x y k=true):feq x 0=true∧feq y 0=true:=by
 simp only [bareB,Bool.and_eq_true] at h
 exact h.2.2.1
theorem zbq {x z:Nat} (h:feq x z=true):feq x x=true:=by
 have h1:Fl.f64.order x z=some .eq:=by
   unfold feq at h;exact eq_of_beq h
 have h2:Fl.f64.order x x=some .eq:=by
   unfold Ieee.Format.order at *
   revert h1
   generalize Fl.f64.read x=X
   generalize Fl.f64.read z=Z
   intro h1
   cases X <;> cases Z <;> simp [Ieee.Datum.order] at h1 ⊢
 unfold feq
 have h3:FloatKind.f64.format.order x x=some .eq:=h2
 rw [h3];rfl
theorem all_same:∀ p:Pr,p.all=true→same p p=true:=by
 intro p
 induction p using ind with
 | h op t n x y k ih =>
   intro h
   simp only [all,Bool.and_eq_true] at h
   have hk:sames k k=true:=by
     have h2:=h.2
     clear h
     induction k with
     | nil=>simp [sames]
     | cons a l ihl =>
       simp only [alls,Bool.and_eq_true] at h2
       simp only [sames,Bool.and_eq_true]
       exact ⟨ih a (by simp) h2.1,ihl (fun b hb=>ih b (by simp [hb])) h2.2⟩
   have hf:feq x x=true∧feq y y=true:=by
     have h1:=h.1
     unfold partB at h1
     split at h1
     · exact ⟨zbq (zb1 h1).1,zbq (zb1 h1).2⟩
     split at h1
     · simp only [Bool.and_eq_true] at h1
       exact ⟨zbq (zb1 h1.2).1,zbq (zb1 h1.2).2⟩
     split at h1
     · simp only [Bool.and_eq_true] at h1
       exact ⟨zbq (zb1 h1.2).1,zbq (zb1 h1.2).2⟩
     split at h1
     · simp only [Bool.and_eq_true] at h1
       have h3:=h1.1.1
       unfold Proofs.YtodfhabkdaiopaaGreat.mayB at h3
       simp only [Bool.and_eq_true] at h3
       exact ⟨zgu h3.1,zgu h3.2⟩
     split at h1
     · exact ⟨zbq (zb1 h1).1,zbq (zb1 h1).2⟩
     split at h1
     · simp only [Bool.and_eq_true] at h1
       exact ⟨zbq (zb1 h1.2).1,zbq (zb1 h1.2).2⟩
     · cases h1
   simp [same,hk,hf.1,hf.2]
end Pr
end Go.Proofs.YtodfhabkdaiopaaGreat
namespace Go.Proofs.YtodfhabkdaiopaaGreat
set_option linter.unusedVariables false
set_option linter.unusedSimpArgs false
set_option maxRecDepth 100000
set_option maxHeartbeats 8000000
open Go.RowKit
def frCs (U:Nat→Value):Nat→List Fr→List Value
 | _,[]=>[]
 | s,f :: l=>fc f (U s) ++ frCs U (s + 1) l
theorem zdh (U:Nat→Value) (s:Nat) (l:List Fr):(frCs U s l).length=l.length * 9:=by
 induction l generalizing s with
 | nil=>rfl
 | cons p l ih=>simp only [frCs,List.length_append,ih,List.length_cons,List.length_nil];omega
theorem zcz (U:Nat→Value) (s:Nat) (l:List Fr) (i:Nat) (f:Fr) (hf:l[i]?=some f) (j:Nat) (hj:j < 9):(frCs U s l)[i * 9 + j]?=(fc f (U (s + i)))[j]?:=by
 induction l generalizing s i with
 | nil=>simp at hf
 | cons q l ih =>
   cases i with
   | zero =>
     simp at hf;subst hf
     simp only [frCs,Nat.zero_mul,Nat.zero_add,Nat.add_zero]
     rw [List.getElem?_append_left (by simpa using hj)]
   | succ i =>
     simp at hf
     have e:(fc q (U s)).length=9:=rfl
     rw [frCs,List.getElem?_append_right (by rw [e];omega),e,show (i + 1) * 9 + j - 9=i * 9 + j by omega,ih (s + 1) i hf,show s + 1 + i=s + (i + 1) by omega]
theorem ze9 {U V:Nat→Value} {s:Nat} {l:List Fr} (h:∀ i,i < l.length→U (s + i)=V (s + i)):frCs U s l=frCs V s l:=by
 induction l generalizing s with
 | nil=>rfl
 | cons p l ih =>
   rw [frCs,frCs,show U s=V s from h 0 (by simp),ih (fun i hi=>by have:=h (i + 1) (by simp;omega);rwa [show s + (i + 1)=s + 1 + i by omega] at this)]
theorem zgv (U:Nat→Value) (s:Nat) (l m:List Fr):frCs U s (l ++ m)=frCs U s l ++ frCs U (s + l.length) m:=by
 induction l generalizing s with
 | nil=>simp [frCs]
 | cons p l ih=>simp only [List.cons_append,frCs,ih,List.append_assoc,List.length_cons];rw [show s + 1 + l.length=s + (l.length + 1) by omega]
def updU (U:Nat→Value) (i:Nat) (v:Value):Nat→Value:=fun j=>if j=i then v else U j
theorem zck (U:Nat→Value) (i:Nat) (v:Value):updU U i v i=v:=by simp [updU]
theorem zbt (U:Nat→Value) {i j:Nat} (v:Value) (h:j ≠ i):updU U i v j=U j:=by simp [updU,h]
theorem zn7 (U:Nat→Value) (l:List Fr):∀ (s a:Nat) (f f':Fr) (v:Value),l[a]?=some f→f'.v=f.v→frCs (updU U (s + a) v) s (l.set a f')=(frCs U s l).set (a * 9) v:=by
 induction l with
 | nil=>intro s a f f' v h;simp at h
 | cons q l ih =>
   intro s a f f' v h hv
   cases a with
   | zero =>
     simp at h;subst h
     rw [List.set_cons_zero,frCs,frCs,Nat.zero_mul,Nat.add_zero,zck]
     rw [ze9 (U:=updU U s v) (V:=U) (s:=s + 1) (l:=l) (fun i _=>zbt _ _ (by omega))]
     simp [fc,hv]
   | succ a =>
     simp at h
     rw [List.set_cons_succ,frCs,frCs,zbt _ _ (by omega)]
     have e:(fc q (U s)).length=9:=rfl
     rw [List.set_append_right _ _ (by rw [e];omega),e,show (a + 1) * 9 - 9=a * 9 by omega,← ih (s + 1) a f f' v h hv,show s + 1 + a=s + (a + 1) by omega]
theorem zcd {w:World} {base base' n n' size size':Nat} {e e':TypeId} {v v':Value} {xs xs':List Value} (h:w.ownsRow base e size v n xs) (h':w.ownsRow base' e' size' v' n' xs') (hne:e ≠ e'):v.ownBlock=none ∨ v.ownBlock ≠ v'.ownBlock:=by
 rcases h.2 with ⟨rfl,_⟩ | ⟨g,cap,cur,rfl,_,hg,_⟩
 · exact .inl rfl
 · right
   rcases h'.2 with ⟨rfl,_⟩ | ⟨g',cap',cur',rfl,_,hg',_⟩
   · simp [Value.ownBlock]
   · simp only [Value.ownBlock,ne_eq,Option.some.injEq]
     intro e;subst e
     rw [hg] at hg'
     simp only [Option.some.injEq,Obj.cells.injEq] at hg'
     exact hne hg'.2.1
theorem za9 {w:World} {base n size b:Nat} {e t:TypeId} {v:Value} {xs:List Value} {c:Array Value} (h:w.ownsRow base e size v n xs) (h':Own w b c t) (hne:e ≠ t):some b ≠ v.ownBlock:=by
 rcases h.2 with ⟨rfl,_⟩ | ⟨g,cap,cur,rfl,_,hg,_⟩
 · simp [Value.ownBlock]
 · simp only [Value.ownBlock,ne_eq,Option.some.injEq]
   intro e;subst e
   have:=h'.blk
   rw [hg] at this
   simp only [Option.some.injEq,Obj.cells.injEq] at this
   exact hne this.2.1
theorem zl6 {w:World} {base n size g cap o:Nat} {e:TypeId} {xs:List Value} (h:w.ownsRow base e size (.slice (some ⟨g,0,none⟩) n cap) n xs) (v:Value) (ho:o < n * size):(w.setCell ⟨g,o,none⟩ v).ownsRow base e size (.slice (some ⟨g,0,none⟩) n cap) n (xs.set o v):=by
 obtain ⟨h1,h2⟩:=h
 refine ⟨by rw [List.length_set];exact h1,?_⟩
 rcases h2 with ⟨h2,_⟩ | ⟨g',cap',cur,hv,hg,hh,h3,h4,h5,h6⟩
 · cases h2
 · cases hv
   refine .inr ⟨g,cap,cur.setIfInBounds o v,rfl,hg,?_,h3,h4,by simpa using h5,?_⟩
   · simp only [World.setCell,Array.getElem?_modify,if_true]
     rw [hh];simp
   · rw [← h6,Array.toList_setIfInBounds,List.take_set]
theorem zha {w:World} {base n n' size g cap:Nat} {e:TypeId} {xs:List Value} (h:w.ownsRow base e size (.slice (some ⟨g,0,none⟩) n' cap) n xs) (o:Nat):w.frozen? ⟨g,o,none⟩=false:=by
 rcases h.2 with ⟨h2,_⟩ | ⟨g',cap',cur,hv,hg,hh,_⟩
 · cases h2
 · cases hv
   simp [World.frozen?,hh]
structure PK (w:World) (base:Nat) (o:List Fr) (U:Nat→Value) (Lv:Value):Prop where
 row:w.ownsRow base 162 9 Lv o.length (frCs U 0 o)
 ids:∀ i f,o[i]?=some f→OwnT w base f.ids (U i)
 apart:∀ i j,i < o.length→j < o.length→i ≠ j→(U i).ownBlock=none ∨ (U i).ownBlock ≠ (U j).ownBlock
theorem PK.nil (w:World) (base:Nat) (U:Nat→Value):PK w base [] U (.slice none 0 0) :=
 ⟨World.ownsRow_nil _ _ _ _,fun i f h=>by simp at h,fun i j h=>absurd h (by simp)⟩
theorem PK.later {w w':World} {base:Nat} {o:List Fr} {U:Nat→Value} {Lv:Value} (h:PK w base o U Lv) (hb:Below w.heap.size w w'):PK w' base o U Lv :=
 ⟨zau h.row hb,fun i f hf=>(h.ids i f hf).later hb,h.apart⟩
theorem PK.setLow {w:World} {base:Nat} {o:List Fr} {U:Nat→Value} {Lv:Value} (h:PK w base o U Lv) {a:Addr} (ha:a.block < base) (u:Value):PK (w.setCell a u) base o U Lv :=
 ⟨ownsRow_setCell_below h.row ha u,fun i f hf=>ownsRow_setCell_below (h.ids i f hf) ha u,h.apart⟩
theorem zfw:9 ≠ 162:=by decide
theorem PK.at {w:World} {base:Nat} {o:List Fr} {U:Nat→Value} {g n cap:Nat} (h:PK w base o U (.slice (some ⟨g,0,none⟩) n cap)) {k:Nat} {f:Fr} (hf:o[k]?=some f):∀ j u,(fc f (U k))[j]?=some u→w.cell? ⟨g,k * 9 + j,none⟩=some u:=by
 intro j u hu
 have hj:j < 9:=(List.getElem?_eq_some_iff.1 hu).1
 have hk:=posA hf
 have hn:n=o.length:=by
   obtain ⟨oa,cap',g',e,_⟩:=zaq h.row
   cases e;rfl
 subst hn
 rw [h.row.cellAt (k * 9 + j) (by omega),zcz _ _ _ _ _ hf _ hj,Nat.zero_add]
 exact hu
theorem PK.fr {w:World} {base:Nat} {o:List Fr} {U:Nat→Value} {Lv:Value} (h:PK w base o U Lv) (hok:∀ f∈o,∀ s∈f.ids,s.size≤maxLen):FrW w o Lv:=by
 obtain ⟨oa,cap,g,e,h1,h2,hg⟩:=zaq h.row
 subst e
 refine ⟨U,oa,cap,g,0,rfl,h1,h2,fun h0=>⟨(hg h0).1,(hg h0).2.2⟩,fun k f hf j u hu=>?_,fun k f hf=>(h.ids k f hf).tx (hok f (List.mem_of_getElem? hf))⟩
 obtain ⟨rfl,_⟩:=hg (by have:=posA hf;omega)
 rw [Nat.zero_add]
 exact h.at hf j u hu
def FrFresh (w:World) (B:Nat) (l:List Fr) (v:Value):Prop:=∀ w':World,(∀ b,B≤b→b < w.heap.size→w'.heap[b]?=w.heap[b]?)→w.heap.size≤w'.heap.size→FrW w' l v
theorem FrFresh.fr {w:World} {B:Nat} {l:List Fr} {v:Value} (h:FrFresh w B l v):FrW w l v:=h w (fun _ _ _=>rfl) (Nat.le_refl _)
theorem FrFresh.mono {w:World} {B B':Nat} {l:List Fr} {v:Value} (h:FrFresh w B l v) (hB:B'≤B):FrFresh w B' l v:=fun w' h1 h2=>h w' (fun b h3 h4=>h1 b (by omega) h4) h2
theorem FrFresh.setLow {w:World} {B:Nat} {l:List Fr} {v:Value} (h:FrFresh w B l v) {a:Addr} (ha:a.block < B) (u:Value):FrFresh (w.setCell a u) B l v:=fun w' h1 h2 =>
 have hs:(w.setCell a u).heap.size=w.heap.size:=by simp [World.setCell]
 h w' (fun b h3 h4=>(h1 b h3 (by omega)).trans (Below.heap_setCell _ _ _ _ (by omega))) (by omega)
theorem PK.kept {w w':World} {base:Nat} {o:List Fr} {U:Nat→Value} {Lv:Value} (h:PK w base o U Lv) (hb:∀ b,base≤b→b < w.heap.size→w'.heap[b]?=w.heap[b]?):PK w' base o U Lv:=by
 have hk:∀ {e:TypeId} {size n:Nat} {v:Value} {xs:List Value},w.ownsRow base e size v n xs→w'.ownsRow base e size v n xs:=by
   intro e size n v xs hr
   obtain ⟨h1,h2⟩:=hr
   refine ⟨h1,?_⟩
   rcases h2 with h2 | ⟨g,cap,cur,hv,hg,hh,r⟩
   · exact .inl h2
   · have hlt:g < w.heap.size:=(World.ownsRow.lt (⟨h1,.inr ⟨g,cap,cur,hv,hg,hh,r⟩⟩:w.ownsRow base e size v n xs) g (by rw [hv];rfl)).2
     exact .inr ⟨g,cap,cur,hv,hg,by rw [hb g hg hlt];exact hh,r⟩
 exact ⟨hk h.row,fun i f hf=>hk (h.ids i f hf),h.apart⟩
theorem PK.fresh {w:World} {base B:Nat} {o:List Fr} {U:Nat→Value} {Lv:Value} (h:PK w base o U Lv) (hB:B≤base) (hok:∀ f∈o,∀ s∈f.ids,s.size≤maxLen):FrFresh w B o Lv :=
 fun w' h1 _=>(h.kept fun b h3 h4=>h1 b (by omega) h4).fr hok
theorem PK.pushF {w w':World} {base:Nat} {o:List Fr} {U:Nat→Value} {Lv:Value} (h:PK w base o U Lv) (v:Nat→Int) {g n cap:Nat} (hn:n=o.length + 1)
   (hown:w'.ownsRow base 162 9 (.slice (some ⟨g,0,none⟩) n cap) n (frCs U 0 o ++ fc ⟨[],v⟩ (.slice none 0 0))) (hgrow:w.grownBy w' Lv.ownBlock) :
   PK w' base (o ++ [⟨[],v⟩]) (updU U o.length (.slice none 0 0)) (.slice (some ⟨g,0,none⟩) n cap):=by
 subst hn
 refine ⟨?_,fun i f hf=>?_,fun i j hi hj hij=>?_⟩
 · rw [List.length_append,zgv,Nat.zero_add,frCs,frCs,List.append_nil,zck]
   rw [ze9 (U:=updU U o.length (.slice none 0 0)) (V:=U) (s:=0) (l:=o) (fun i hi=>zbt _ _ (by omega))]
   exact hown
 · by_cases e:i=o.length
   · subst e
     rw [List.getElem?_append_right (Nat.le_refl _),Nat.sub_self] at hf
     simp at hf;subst hf
     rw [zck];exact OwnT.nil _ _
   · have hi:i < o.length:=by have:=posA hf;simp at this;omega
     rw [List.getElem?_append_left hi] at hf
     rw [zbt _ _ e]
     exact World.ownsRow.kept (h.ids i f hf) hgrow (zcd (h.ids i f hf) h.row zfw)
 · simp only [List.length_append,List.length_cons,List.length_nil] at hi hj
   by_cases e:i=o.length
   · subst e;rw [zck];exact .inl rfl
   · rw [zbt _ _ e]
     by_cases e':j=o.length
     · subst e';rw [zck]
       cases hq:(U i).ownBlock with
       | none=>exact .inl rfl
       | some b=>exact .inr (by simp [Value.ownBlock])
     · rw [zbt _ _ e'];exact h.apart i j (by omega) (by omega) hij
theorem PK.pushT {w w':World} {base:Nat} {o:List Fr} {U:Nat→Value} {gl nl cl:Nat} (h:PK w base o U (.slice (some ⟨gl,0,none⟩) nl cl)) {a:Nat} {f:Fr} (hf:o[a]?=some f) (s:ByteArray) {g n cap:Nat} (hn:n=f.ids.length + 1)
   (hown:w'.ownsRow base 9 1 (.slice (some ⟨g,0,none⟩) n cap) n (txC f.ids ++ [.string s])) (hgrow:w.grownBy w' (U a).ownBlock) (hat:(U a).ownBlock=some g ∨ g=w.heap.size) :
   PK (w'.setCell ⟨gl,a * 9,none⟩ (.slice (some ⟨g,0,none⟩) n cap)) base (o.set a ⟨f.ids ++ [s],f.v⟩) (updU U a (.slice (some ⟨g,0,none⟩) n cap)) (.slice (some ⟨gl,0,none⟩) nl cl):=by
 have ha:=posA hf
 have hrow':w'.ownsRow base 162 9 (.slice (some ⟨gl,0,none⟩) nl cl) o.length (frCs U 0 o):=World.ownsRow.kept h.row hgrow (zcd h.row (h.ids a f hf) (fun e=>zfw e.symm))
 have hnl:nl=o.length:=by
   obtain ⟨oa,cap',g',e,_⟩:=zaq h.row
   cases e;rfl
 subst hnl
 have hgl:∀ {v:Value} {n:Nat} {xs:List Value},w'.ownsRow base 9 1 v n xs→v.ownBlock ≠ some gl:=by
   intro v n xs hv e
   rcases zcd hv hrow' zfw with h1 | h1
   · rw [h1] at e;cases e
   · exact h1 (by rw [e];rfl)
 have hne:∀ j,j < o.length→j ≠ a→(U j).ownBlock ≠ some g:=by
   intro j hj hja e
   rcases hat with h1 | h1
   · rcases h.apart j a hj ha hja with h2 | h2
     · rw [h2] at e;cases e
     · exact h2 (by rw [e,h1])
   · obtain ⟨fj,hfj⟩:∃ fj,o[j]?=some fj:=⟨_,List.getElem?_eq_getElem hj⟩
     have:=(World.ownsRow.lt (h.ids j fj hfj) g e).2
     omega
 refine ⟨?_,fun i f' hf'=>?_,fun i j hi hj hij=>?_⟩
 · rw [List.length_set]
   have e:=zn7 U o 0 a f ⟨f.ids ++ [s],f.v⟩ (.slice (some ⟨g,0,none⟩) n cap) hf rfl
   rw [Nat.zero_add] at e
   rw [e]
   exact zl6 hrow' _ (by omega)
 · by_cases e:i=a
   · subst e
     rw [List.getElem?_set_self (by exact ha)] at hf'
     simp at hf';subst hf'
     rw [zck]
     refine ownsRow_setCell_other (OwnT.push hown hn) ?_ _
     exact hgl hown
   · rw [List.getElem?_set_ne (fun e'=>e e'.symm)] at hf'
     rw [zbt _ _ e]
     have hi:=posA hf'
     have hk:OwnT w' base f'.ids (U i):=World.ownsRow.kept (h.ids i f' hf') hgrow (h.apart i a hi ha e)
     exact ownsRow_setCell_other hk (hgl hk) _
 · rw [List.length_set] at hi hj
   by_cases e:i=a
   · subst e
     rw [zck,zbt _ _ (fun e=>hij e.symm)]
     exact .inr fun e=>hne j hj (fun e'=>hij e'.symm) (by rw [← e];rfl)
   · rw [zbt _ _ e]
     by_cases e':j=a
     · subst e'
       rw [zck]
       exact .inr fun e2=>hne i hi e (by rw [e2];rfl)
     · rw [zbt _ _ e'];exact h.apart i j hi hj hij
theorem z1u (a b:Itm):upB a b=lsB a.id b.id:=by
 have h:=zew b.id a.id
 unfold gtB at h
 exact h
theorem zlc:∀ {l:List Itm},zgl l=true ↔ Rise (l.map (·.id))
 | []=>by simp [zgl,Rise]
 | [a]=>by simp [zgl,Rise]
 | a :: b :: l=>by
   rw [zgl,Bool.and_eq_true,zlc (l:=b :: l),z1u]
   have e:(a :: b :: l).map (·.id)=a.id :: (b :: l).map (·.id):=rfl
   rw [e,rise_cons]
   constructor
   · rintro ⟨h1,h2⟩
     refine ⟨fun x hx=>?_,h2⟩
     rw [List.map_cons] at hx h2
     rcases List.mem_cons.1 hx with e | hx
     · subst e;exact h1
     · exact zbs h1 ((rise_cons.1 h2).1 x hx)
   · rintro ⟨h1,h2⟩
     exact ⟨h1 b.id (by simp),h2⟩
abbrev zap (l:List Itm):Prop:=Rise (l.map (·.id))
theorem riseI_cons {a:Itm} {l:List Itm}:zap (a :: l) ↔ (∀ x∈l,lsB a.id x.id=true)∧zap l:=by
 unfold zap
 rw [List.map_cons,rise_cons]
 simp
theorem zbg {p:Itm→Bool} {l:List Itm} (h:zap l):zap (l.filter p):=by
 unfold zap Rise at *
 rw [List.pairwise_map] at *
 exact List.Pairwise.filter p h
theorem zmu {l m:List Itm} (h1:zap l) (h2:zap m) (h:∀ a∈l,∀ b∈m,lsB a.id b.id=true):zap (l ++ m):=by
 unfold zap Rise at *
 rw [List.map_append,List.pairwise_append]
 refine ⟨h1,h2,fun a ha b hb=>?_⟩
 obtain ⟨x,hx,rfl⟩:=List.mem_map.1 ha
 obtain ⟨y,hy,rfl⟩:=List.mem_map.1 hb
 exact h x hx y hy
theorem zff {l:List Itm} (h:zap l) {a b:Itm} (ha:a∈l) (hb:b∈l) (e:a.id=b.id):a=b:=by
 induction l with
 | nil=>simp at ha
 | cons x l ih =>
   rw [riseI_cons] at h
   rcases List.mem_cons.1 ha with ea | ha
   · rcases List.mem_cons.1 hb with eb | hb
     · rw [ea,eb]
     · have:=h.1 b hb;rw [← ea,e,zbl] at this;cases this
   · rcases List.mem_cons.1 hb with eb | hb
     · have:=h.1 a ha;rw [← eb,e,zbl] at this;cases this
     · exact ih h.2 ha hb
theorem zeq {l:List Itm} {x:Itm} (h:zap l):zap (putI l x):=by
 unfold putI
 refine zmu (zmu (zbg h) (riseI_cons.2 ⟨by simp,by simp [zap,Rise]⟩) fun a ha b hb=>?_) (zbg h) fun a ha b hb=>?_
 · simp at hb;subst hb;exact (List.mem_filter.1 ha).2
 · have h2:=(List.mem_filter.1 hb).2
   rw [zew] at h2
   rcases List.mem_append.1 ha with ha | ha
   · exact zbs (List.mem_filter.1 ha).2 h2
   · simp at ha;subst ha;exact h2
theorem mem_put {l:List Itm} {x i:Itm}:i∈putI l x ↔ i=x ∨ (i∈l∧i.id ≠ x.id):=by
 unfold putI
 simp only [List.mem_append,List.mem_filter,List.mem_cons,List.not_mem_nil,or_false,zew]
 constructor
 · rintro ((⟨h1,h2⟩ | h) | ⟨h1,h2⟩)
   · exact .inr ⟨h1,zfd h2⟩
   · exact .inl h
   · exact .inr ⟨h1,fun e=>zfd h2 e.symm⟩
 · rintro (h | ⟨h1,h2⟩)
   · exact .inl (.inr h)
   · rcases zdy i.id x.id with h | h | h
     · exact .inl (.inl ⟨h1,h⟩)
     · exact absurd h h2
     · exact .inr ⟨h1,h⟩
theorem mem_drop {l:List Itm} {id:ByteArray} {i:Itm}:i∈l.filter (neB id) ↔ i∈l∧i.id ≠ id:=by
 rw [List.mem_filter]
 unfold neB
 rw [Bool.not_eq_true',tl_ne]
theorem zfl {l:List Itm} {id:ByteArray} {i:Itm} (h:zap l) (hi:i∈l) (e:i.id=id):getI l id=(i,true):=by
 unfold getI
 have hf:l.find? (fun i=>i.id.toList == id.toList)=some i:=by
   cases hq:l.find? (fun i=>i.id.toList == id.toList) with
   | none =>
     rw [List.find?_eq_none] at hq
     exact absurd (tl_eq.2 e) (hq i hi)
   | some j =>
     have hj:(j.id.toList == id.toList)=true:=List.find?_some (p:=fun i:Itm=>i.id.toList == id.toList) hq
     have hm:=List.mem_of_find?_eq_some hq
     rw [zff h hm hi ((tl_eq.1 hj).trans e.symm)]
 rw [hf]
theorem zc0 {l:List Itm} {id:ByteArray} (h:∀ i∈l,i.id ≠ id):getI l id=(Itm.zero,false):=by
 unfold getI
 rw [show l.find? (fun i=>i.id.toList == id.toList)=none from List.find?_eq_none.2 fun i hi hq=>h i hi (tl_eq.1 hq)]
theorem zco (l:List Itm) (id:ByteArray):(∃ i,i∈l∧i.id=id∧getI l id=(i,true)) ∨ ((∀ i∈l,i.id ≠ id)∧getI l id=(Itm.zero,false)):=by
 by_cases h:∃ i∈l,i.id=id
 · obtain ⟨i,hi,e⟩:=h
   left
   unfold getI
   cases hq:l.find? (fun i=>i.id.toList == id.toList) with
   | none=>rw [List.find?_eq_none] at hq;exact absurd (tl_eq.2 e) (hq i hi)
   | some j=>exact ⟨j,List.mem_of_find?_eq_some hq,tl_eq.1 (List.find?_some (p:=fun i:Itm=>i.id.toList == id.toList) hq),rfl⟩
 · right
   have h':∀ i∈l,i.id ≠ id:=fun i hi e=>h ⟨i,hi,e⟩
   exact ⟨h',zc0 h'⟩
theorem zjy {l m:List Itm} {id:ByteArray} (hl:zap l) (h:∀ i:Itm,i.id=id→(i∈l ↔ i∈m)):getI m id=getI l id:=by
 rcases zco m id with ⟨i,hi,e,hg⟩ | ⟨hn,hg⟩
 · rw [hg,zfl hl ((h i e).2 hi) e]
 · rw [hg,zc0 fun i hi e=>hn i ((h i e).1 hi) e]
theorem zlr {l:List Itm} {x:Itm} (h:zap l) (id:ByteArray):getI (putI l x) id=if id=x.id then (x,true) else getI l id:=by
 split
 · rename_i e;exact zfl (zeq h) (mem_put.2 (.inl rfl)) e.symm
 · rename_i e
   refine zjy h fun i hi=>?_
   rw [mem_put]
   constructor
   · intro hm;exact .inr ⟨hm,fun e'=>e (hi.symm.trans e')⟩
   · rintro (rfl | h)
     · exact absurd hi.symm e
     · exact h.1
theorem zv2 {l:List Itm} {x:ByteArray} (h:zap l) (id:ByteArray):getI (l.filter (neB x)) id=if id=x then (Itm.zero,false) else getI l id:=by
 split
 · rename_i e;exact zc0 fun i hi e'=>(mem_drop.1 hi).2 (e'.trans e)
 · rename_i e
   refine zjy h fun i hi=>?_
   rw [mem_drop]
   exact ⟨fun hm=>⟨hm,fun e'=>e (hi.symm.trans e')⟩,fun hm=>hm.1⟩
theorem zf4 {f:Itm→Itm→Bool} {l:List Itm} {y:Itm} (h:zap l):zap (zcm f l y):=by
 unfold zcm;split
 · exact zeq h
 · exact h
theorem zd7 {f:Itm→Itm→Bool} (b:List Itm):∀ {a:List Itm},zap a→zap (zar f a b):=by
 induction b with
 | nil=>intro a h;exact h
 | cons y b ih=>intro a h;exact ih (zf4 h)
theorem znv {f:Itm→Itm→Bool} (b:List Itm):∀ {a:List Itm} {i:Itm},i∈zar f a b→i∈a ∨ i∈b:=by
 induction b with
 | nil=>intro a i h;exact .inl h
 | cons y b ih =>
   intro a i h
   have h':i∈zar f (zcm f a y) b:=h
   rcases ih h' with h1 | h1
   · rcases zxj h1 with h2 | h2
     · exact .inl h2
     · exact .inr (by simp [h2])
   · exact .inr (by simp [h1])
theorem zjz {f:Itm→Itm→Bool} {l:List Itm} {y:Itm} (h:zap l) (id:ByteArray):getI (zcm f l y) id=if id=y.id then (if (!(getI l id).2 || f y (getI l id).1)=true then (y,true) else getI l id) else getI l id:=by
 unfold zcm
 by_cases e:id=y.id
 · subst e
   rw [if_pos rfl]
   split
   · rw [zlr h,if_pos rfl]
   · rfl
 · rw [if_neg e]
   split
   · rw [zlr h,if_neg e]
   · rfl
theorem zrf {f:Itm→Itm→Bool} (b:List Itm):∀ {a:List Itm} {id:ByteArray},zap a→(∀ i∈b,i.id ≠ id)→getI (zar f a b) id=getI a id:=by
 induction b with
 | nil=>intro a id _ _;rfl
 | cons y b ih =>
   intro a id h hn
   have h':getI (zar f (zcm f a y) b) id=getI (zcm f a y) id:=ih (zf4 h) fun i hi=>hn i (by simp [hi])
   have:zar f a (y :: b)=zar f (zcm f a y) b:=rfl
   rw [this,h',zjz h,if_neg (fun e=>hn y (by simp) e.symm)]
theorem zjx {f:Itm→Itm→Bool} (b:List Itm):∀ {a:List Itm} (id:ByteArray),zap a→zap b→getI (zar f a b) id=if (getI b id).2=true then (if (!(getI a id).2 || f (getI b id).1 (getI a id).1)=true then ((getI b id).1,true) else getI a id) else getI a id:=by
 induction b with
 | nil=>intro a id _ _;rw [show getI [] id=(Itm.zero,false) from rfl];rfl
 | cons y b ih =>
   intro a id ha hb
   rw [riseI_cons] at hb
   have e0:zar f a (y :: b)=zar f (zcm f a y) b:=rfl
   by_cases e:id=y.id
   · have hn:∀ i∈b,i.id ≠ id:=by
       intro i hi e'
       have:=hb.1 i hi
       rw [e',e,zbl] at this;cases this
     have hg:getI (y :: b) id=(y,true):=zfl (riseI_cons.2 hb) (by simp) e.symm
     rw [e0,zrf b (zf4 ha) hn,zjz ha,if_pos e,hg,if_pos rfl]
   · have hg:getI (y :: b) id=getI b id:=zjy hb.2 fun i hi=>by
       constructor
       · intro h;simp [h]
       · intro h
         rcases List.mem_cons.1 h with rfl | h
         · exact absurd hi.symm e
         · exact h
     rw [e0,ih id (zf4 ha) hb.2,hg,zjz ha,if_neg e]
theorem zo3 (a b c d:Nat) (w:World) :
   Calls Tryz.prog 105 #[.complex .f64 a b,.complex .f64 c d] w fun e w'=>e=.returned (.int .i64 (farV a b c d))∧w=w':=by
 unfold farV
 have H1:=Lib.hid (zey a b w)
 have H2:=Lib.hid (zey c d w)
 cases h1:mayB a b
 · have h1':=Lib.hid h1
   clear h1
   generalize mayB c d=q at *
   go_enter Tryz.func105,Tryz.ntmps105
   go_wp2_with fail
   refine ((H1).out).mono ?_
   rw [h1'.out];rintro e w' ⟨rfl,rfl⟩
   go_wp2_with fail
   refine ((H2).out).mono ?_
   rintro e w' ⟨rfl,rfl⟩
   go_wp2
   go_ret
   exact ⟨rfl,rfl⟩
 · cases h2:mayB c d
   · have h1':=Lib.hid h1
     have h2':=Lib.hid h2
     clear h1 h2
     go_enter Tryz.func105,Tryz.ntmps105
     go_wp2_with fail
     refine ((H1).out).mono ?_
     rw [h1'.out];rintro e w' ⟨rfl,rfl⟩
     go_wp2_with fail
     refine ((H2).out).mono ?_
     rw [h2'.out];rintro e w' ⟨rfl,rfl⟩
     go_wp2
     go_ret
     exact ⟨rfl,rfl⟩
   · obtain ⟨ia,ib,ba,bb⟩:=zec h1
     obtain ⟨ic,id,bc,bd⟩:=zec h2
     have k1:=run_convert_float_int (P:=Tryz.prog) w 22 3 .f64 .i64 a _ (by kernel_rfl) (by kernel_rfl) (Fl.toIntVal_int ia (by omega))
     have k2:=run_convert_float_int (P:=Tryz.prog) w 22 3 .f64 .i64 b _ (by kernel_rfl) (by kernel_rfl) (Fl.toIntVal_int ib (by omega))
     have k3:=run_convert_float_int (P:=Tryz.prog) w 22 3 .f64 .i64 c _ (by kernel_rfl) (by kernel_rfl) (Fl.toIntVal_int ic (by omega))
     have k4:=run_convert_float_int (P:=Tryz.prog) w 22 3 .f64 .i64 d _ (by kernel_rfl) (by kernel_rfl) (Fl.toIntVal_int id (by omega))
     simp only [Bool.and_self,if_true]
     clear ia ib ic id
     generalize Fl.iv a=x at *
     generalize Fl.iv b=y at *
     generalize Fl.iv c=z at *
     generalize Fl.iv d=u at *
     have hp1:-2000≤x - z:=by omega
     have hp2:x - z≤2000:=by omega
     have hq1:-2000≤y - u:=by omega
     have hq2:y - u≤2000:=by omega
     obtain ⟨sp1,sp2⟩:=zi1 hp1 hp2
     obtain ⟨sq1,sq2⟩:=zi1 hq1 hq2
     have x1:-1000≤x:=by omega
     have x2:x≤1000:=by omega
     have y1:-1000≤y:=by omega
     have y2:y≤1000:=by omega
     have z1:-1000≤z:=by omega
     have z2:z≤1000:=by omega
     have u1:-1000≤u:=by omega
     have u2:u≤1000:=by omega
     clear ba bb bc bd
     have h1':=Lib.hid h1
     have h2':=Lib.hid h2
     clear h1 h2
     go_enter Tryz.func105,Tryz.ntmps105
     go_wp2_with fail
     refine ((H1).out).mono ?_
     rw [h1'.out];rintro e w' ⟨rfl,rfl⟩
     go_wp2_with fail
     refine ((H2).out).mono ?_
     rw [h2'.out];rintro e w' ⟨rfl,rfl⟩
     go_wp2
     go_ret
     exact ⟨rfl,rfl⟩
end Go.Proofs.YtodfhabkdaiopaaGreat
