/- Joined: PlSt, OpenV, HasM, RefNames. -/
import Derived.Test.YthnllikalobmeaaGreatJ08
import Derived.OneCell
import Derived.Below
import Derived.Test.YthnllikalobmeaaGreatJ06
import Derived.Test.YthnllikalobmeaaGreatJ01
import Derived.Test.YthnllikalobmeaaGreatJ09
import Derived.Test.YthnllikalobmeaaGreatJ10
namespace Go.Proofs.YthnllikalobmeaaGreat
set_option linter.unusedVariables false
set_option linter.unusedSimpArgs false
set_option maxRecDepth 100000
set_option maxHeartbeats 8000000
open Go.RowKit
def frCs (U:Nat → Value):Nat → List Fr → List Value
 | _,[]=>[]
 | s,f :: l=>fc f (U s) ++ frCs U (s + 1) l
theorem zdn (U:Nat → Value) (s:Nat) (l:List Fr):(frCs U s l).length = l.length * 9:=by
 induction l generalizing s with
 | nil=>rfl
 | cons p l ih=>simp only [frCs,List.length_append,ih,List.length_cons,List.length_nil];omega
theorem zcg (U:Nat → Value) (s:Nat) (l:List Fr) (i:Nat) (f:Fr) (hf:l[i]? = some f) (j:Nat) (hj:j < 9):(frCs U s l)[i * 9 + j]? = (fc f (U (s + i)))[j]?:=by
 induction l generalizing s i with
 | nil=>simp at hf
 | cons q l ih =>
   cases i with
   | zero =>
     simp at hf;subst hf
     simp only [frCs,Nat.zero_mul,Nat.zero_add,Nat.add_zero]
     rw [List.getElem?_append_left (by simpa using hj)]
   | succ i =>
     simp at hf
     have e:(fc q (U s)).length = 9:=rfl
     rw [frCs,List.getElem?_append_right (by rw [e];omega),e,show (i + 1) * 9 + j - 9 = i * 9 + j by omega,ih (s + 1) i hf,show s + 1 + i = s + (i + 1) by omega]
theorem zfw {U V:Nat → Value} {s:Nat} {l:List Fr} (h:∀ i,i < l.length → U (s + i) = V (s + i)):frCs U s l = frCs V s l:=by
 induction l generalizing s with
 | nil=>rfl
 | cons p l ih =>
   rw [frCs,frCs,show U s = V s from h 0 (by simp),ih (fun i hi=>by have:=h (i + 1) (by simp;omega);rwa [show s + (i + 1) = s + 1 + i by omega] at this)]
theorem zh7 (U:Nat → Value) (s:Nat) (l m:List Fr):frCs U s (l ++ m) = frCs U s l ++ frCs U (s + l.length) m:=by
 induction l generalizing s with
 | nil=>simp [frCs]
 | cons p l ih=>simp only [List.cons_append,frCs,ih,List.append_assoc,List.length_cons];rw [show s + 1 + l.length = s + (l.length + 1) by omega]
def updU (U:Nat → Value) (i:Nat) (v:Value):Nat → Value:=fun j=>if j = i then v else U j
theorem zbr (U:Nat → Value) (i:Nat) (v:Value):updU U i v i = v:=by simp [updU]
theorem zbb (U:Nat → Value) {i j:Nat} (v:Value) (h:j ≠ i):updU U i v j = U j:=by simp [updU,h]
theorem zma (U:Nat → Value) (l:List Fr):∀ (s a:Nat) (f f':Fr) (v:Value),l[a]? = some f → f'.v = f.v → frCs (updU U (s + a) v) s (l.set a f') = (frCs U s l).set (a * 9) v:=by
 induction l with
 | nil=>intro s a f f' v h;simp at h
 | cons q l ih =>
   intro s a f f' v h hv
   cases a with
   | zero =>
     simp at h;subst h
     rw [List.set_cons_zero,frCs,frCs,Nat.zero_mul,Nat.add_zero,zbr]
     rw [zfw (U:=updU U s v) (V:=U) (s:=s + 1) (l:=l) (fun i _=>zbb _ _ (by omega))]
     simp [fc,hv]
   | succ a =>
     simp at h
     rw [List.set_cons_succ,frCs,frCs,zbb _ _ (by omega)]
     have e:(fc q (U s)).length = 9:=rfl
     rw [List.set_append_right _ _ (by rw [e];omega),e,show (a + 1) * 9 - 9 = a * 9 by omega,← ih (s + 1) a f f' v h hv,show s + 1 + a = s + (a + 1) by omega]
theorem zbp {w:World} {base base' n n' size size':Nat} {e e':TypeId} {v v':Value} {xs xs':List Value} (h:w.ownsRow base e size v n xs) (h':w.ownsRow base' e' size' v' n' xs') (hne:e ≠ e'):v.ownBlock = none ∨ v.ownBlock ≠ v'.ownBlock:=by
 rcases h.2 with ⟨rfl,_⟩ | ⟨g,cap,cur,rfl,_,hg,_⟩
 · exact .inl rfl
 · right
   rcases h'.2 with ⟨rfl,_⟩ | ⟨g',cap',cur',rfl,_,hg',_⟩
   · simp [Value.ownBlock]
   · simp only [Value.ownBlock,ne_eq,Option.some.injEq]
     intro e;subst e
     rw [hg] at hg'
     simp only [Option.some.injEq,Obj.cells.injEq] at hg'
     exact hne hg'.2.1
theorem zdb {w:World} {base n size b:Nat} {e t:TypeId} {v:Value} {xs:List Value} {c:Array Value} (h:w.ownsRow base e size v n xs) (h':Own w b c t) (hne:e ≠ t):some b ≠ v.ownBlock:=by
 rcases h.2 with ⟨rfl,_⟩ | ⟨g,cap,cur,rfl,_,hg,_⟩
 · simp [Value.ownBlock]
 · simp only [Value.ownBlock,ne_eq,Option.some.injEq]
   intro e;subst e
   have:=h'.blk
   rw [hg] at this
   simp only [Option.some.injEq,Obj.cells.injEq] at this
   exact hne this.2.1
theorem zj6 {w:World} {base n size g cap o:Nat} {e:TypeId} {xs:List Value} (h:w.ownsRow base e size (.slice (some ⟨g,0,none⟩) n cap) n xs) (v:Value) (ho:o < n * size):(w.setCell ⟨g,o,none⟩ v).ownsRow base e size (.slice (some ⟨g,0,none⟩) n cap) n (xs.set o v):=by
 obtain ⟨h1,h2⟩:=h
 refine ⟨by rw [List.length_set];exact h1,?_⟩
 rcases h2 with ⟨h2,_⟩ | ⟨g',cap',cur,hv,hg,hh,h3,h4,h5,h6⟩
 · cases h2
 · cases hv
   refine .inr ⟨g,cap,cur.setIfInBounds o v,rfl,hg,?_,h3,h4,by simpa using h5,?_⟩
   · simp only [World.setCell,Array.getElem?_modify,if_true]
     rw [hh];simp
   · rw [← h6,Array.toList_setIfInBounds,List.take_set]
theorem zep {w:World} {base n n' size g cap:Nat} {e:TypeId} {xs:List Value} (h:w.ownsRow base e size (.slice (some ⟨g,0,none⟩) n' cap) n xs) (o:Nat):w.frozen? ⟨g,o,none⟩ = false:=by
 rcases h.2 with ⟨h2,_⟩ | ⟨g',cap',cur,hv,hg,hh,_⟩
 · cases h2
 · cases hv
   simp [World.frozen?,hh]
structure PK (w:World) (base:Nat) (o:List Fr) (U:Nat → Value) (Lv:Value):Prop where
 row:w.ownsRow base 105 9 Lv o.length (frCs U 0 o)
 ids:∀ i f,o[i]? = some f → OwnT w base f.ids (U i)
 apart:∀ i j,i < o.length → j < o.length → i ≠ j → (U i).ownBlock = none ∨ (U i).ownBlock ≠ (U j).ownBlock
theorem PK.nil (w:World) (base:Nat) (U:Nat → Value):PK w base [] U (.slice none 0 0) :=
 ⟨World.ownsRow_nil _ _ _ _,fun i f h=>by simp at h,fun i j h=>absurd h (by simp)⟩
theorem PK.later {w w':World} {base:Nat} {o:List Fr} {U:Nat → Value} {Lv:Value} (h:PK w base o U Lv) (hb:Below w.heap.size w w'):PK w' base o U Lv :=
 ⟨za8 h.row hb,fun i f hf=>(h.ids i f hf).later hb,h.apart⟩
theorem PK.setLow {w:World} {base:Nat} {o:List Fr} {U:Nat → Value} {Lv:Value} (h:PK w base o U Lv) {a:Addr} (ha:a.block < base) (u:Value):PK (w.setCell a u) base o U Lv :=
 ⟨ownsRow_setCell_below h.row ha u,fun i f hf=>ownsRow_setCell_below (h.ids i f hf) ha u,h.apart⟩
theorem zfy:9 ≠ 105:=by decide
theorem PK.at {w:World} {base:Nat} {o:List Fr} {U:Nat → Value} {g n cap:Nat} (h:PK w base o U (.slice (some ⟨g,0,none⟩) n cap)) {k:Nat} {f:Fr} (hf:o[k]? = some f):∀ j u,(fc f (U k))[j]? = some u → w.cell? ⟨g,k * 9 + j,none⟩ = some u:=by
 intro j u hu
 have hj:j < 9:=(List.getElem?_eq_some_iff.1 hu).1
 have hk:=posA hf
 have hn:n = o.length:=by
   obtain ⟨oa,cap',g',e,_⟩:=zan h.row
   cases e;rfl
 subst hn
 rw [h.row.cellAt (k * 9 + j) (by omega),zcg _ _ _ _ _ hf _ hj,Nat.zero_add]
 exact hu
theorem PK.fr {w:World} {base:Nat} {o:List Fr} {U:Nat → Value} {Lv:Value} (h:PK w base o U Lv) (hok:∀ f ∈ o,∀ s ∈ f.ids,s.size ≤ maxLen):FrW w o Lv:=by
 obtain ⟨oa,cap,g,e,h1,h2,hg⟩:=zan h.row
 subst e
 refine ⟨U,oa,cap,g,0,rfl,h1,h2,fun h0=>⟨(hg h0).1,(hg h0).2.2⟩,fun k f hf j u hu=>?_,fun k f hf=>(h.ids k f hf).tx (hok f (List.mem_of_getElem? hf))⟩
 obtain ⟨rfl,_⟩:=hg (by have:=posA hf;omega)
 rw [Nat.zero_add]
 exact h.at hf j u hu
def FrFresh (w:World) (B:Nat) (l:List Fr) (v:Value):Prop:=∀ w':World,(∀ b,B ≤ b → b < w.heap.size → w'.heap[b]? = w.heap[b]?) → w.heap.size ≤ w'.heap.size → FrW w' l v
theorem FrFresh.fr {w:World} {B:Nat} {l:List Fr} {v:Value} (h:FrFresh w B l v):FrW w l v:=h w (fun _ _ _=>rfl) (Nat.le_refl _)
theorem FrFresh.mono {w:World} {B B':Nat} {l:List Fr} {v:Value} (h:FrFresh w B l v) (hB:B' ≤ B):FrFresh w B' l v:=fun w' h1 h2=>h w' (fun b h3 h4=>h1 b (by omega) h4) h2
theorem FrFresh.setLow {w:World} {B:Nat} {l:List Fr} {v:Value} (h:FrFresh w B l v) {a:Addr} (ha:a.block < B) (u:Value):FrFresh (w.setCell a u) B l v:=fun w' h1 h2 =>
 have hs:(w.setCell a u).heap.size = w.heap.size:=by simp [World.setCell]
 h w' (fun b h3 h4=>(h1 b h3 (by omega)).trans (Below.heap_setCell _ _ _ _ (by omega))) (by omega)
theorem PK.kept {w w':World} {base:Nat} {o:List Fr} {U:Nat → Value} {Lv:Value} (h:PK w base o U Lv) (hb:∀ b,base ≤ b → b < w.heap.size → w'.heap[b]? = w.heap[b]?):PK w' base o U Lv:=by
 have hk:∀ {e:TypeId} {size n:Nat} {v:Value} {xs:List Value},w.ownsRow base e size v n xs → w'.ownsRow base e size v n xs:=by
   intro e size n v xs hr
   obtain ⟨h1,h2⟩:=hr
   refine ⟨h1,?_⟩
   rcases h2 with h2 | ⟨g,cap,cur,hv,hg,hh,r⟩
   · exact .inl h2
   · have hlt:g < w.heap.size:=(World.ownsRow.lt (⟨h1,.inr ⟨g,cap,cur,hv,hg,hh,r⟩⟩:w.ownsRow base e size v n xs) g (by rw [hv];rfl)).2
     exact .inr ⟨g,cap,cur,hv,hg,by rw [hb g hg hlt];exact hh,r⟩
 exact ⟨hk h.row,fun i f hf=>hk (h.ids i f hf),h.apart⟩
theorem PK.fresh {w:World} {base B:Nat} {o:List Fr} {U:Nat → Value} {Lv:Value} (h:PK w base o U Lv) (hB:B ≤ base) (hok:∀ f ∈ o,∀ s ∈ f.ids,s.size ≤ maxLen):FrFresh w B o Lv :=
 fun w' h1 _=>(h.kept fun b h3 h4=>h1 b (by omega) h4).fr hok
theorem PK.pushF {w w':World} {base:Nat} {o:List Fr} {U:Nat → Value} {Lv:Value} (h:PK w base o U Lv) (v:Nat → Int) {g n cap:Nat} (hn:n = o.length + 1)
   (hown:w'.ownsRow base 105 9 (.slice (some ⟨g,0,none⟩) n cap) n (frCs U 0 o ++ fc ⟨[],v⟩ (.slice none 0 0))) (hgrow:w.grownBy w' Lv.ownBlock) :
   PK w' base (o ++ [⟨[],v⟩]) (updU U o.length (.slice none 0 0)) (.slice (some ⟨g,0,none⟩) n cap):=by
 subst hn
 refine ⟨?_,fun i f hf=>?_,fun i j hi hj hij=>?_⟩
 · rw [List.length_append,zh7,Nat.zero_add,frCs,frCs,List.append_nil,zbr]
   rw [zfw (U:=updU U o.length (.slice none 0 0)) (V:=U) (s:=0) (l:=o) (fun i hi=>zbb _ _ (by omega))]
   exact hown
 · by_cases e:i = o.length
   · subst e
     rw [List.getElem?_append_right (Nat.le_refl _),Nat.sub_self] at hf
     simp at hf;subst hf
     rw [zbr];exact OwnT.nil _ _
   · have hi:i < o.length:=by have:=posA hf;simp at this;omega
     rw [List.getElem?_append_left hi] at hf
     rw [zbb _ _ e]
     exact World.ownsRow.kept (h.ids i f hf) hgrow (zbp (h.ids i f hf) h.row zfy)
 · simp only [List.length_append,List.length_cons,List.length_nil] at hi hj
   by_cases e:i = o.length
   · subst e;rw [zbr];exact .inl rfl
   · rw [zbb _ _ e]
     by_cases e':j = o.length
     · subst e';rw [zbr]
       cases hq:(U i).ownBlock with
       | none=>exact .inl rfl
       | some b=>exact .inr (by simp [Value.ownBlock])
     · rw [zbb _ _ e'];exact h.apart i j (by omega) (by omega) hij
theorem PK.pushT {w w':World} {base:Nat} {o:List Fr} {U:Nat → Value} {gl nl cl:Nat} (h:PK w base o U (.slice (some ⟨gl,0,none⟩) nl cl)) {a:Nat} {f:Fr} (hf:o[a]? = some f) (s:ByteArray) {g n cap:Nat} (hn:n = f.ids.length + 1)
   (hown:w'.ownsRow base 9 1 (.slice (some ⟨g,0,none⟩) n cap) n (txC f.ids ++ [.string s])) (hgrow:w.grownBy w' (U a).ownBlock) (hat:(U a).ownBlock = some g ∨ g = w.heap.size) :
   PK (w'.setCell ⟨gl,a * 9,none⟩ (.slice (some ⟨g,0,none⟩) n cap)) base (o.set a ⟨f.ids ++ [s],f.v⟩) (updU U a (.slice (some ⟨g,0,none⟩) n cap)) (.slice (some ⟨gl,0,none⟩) nl cl):=by
 have ha:=posA hf
 have hrow':w'.ownsRow base 105 9 (.slice (some ⟨gl,0,none⟩) nl cl) o.length (frCs U 0 o):=World.ownsRow.kept h.row hgrow (zbp h.row (h.ids a f hf) (fun e=>zfy e.symm))
 have hnl:nl = o.length:=by
   obtain ⟨oa,cap',g',e,_⟩:=zan h.row
   cases e;rfl
 subst hnl
 have hgl:∀ {v:Value} {n:Nat} {xs:List Value},w'.ownsRow base 9 1 v n xs → v.ownBlock ≠ some gl:=by
   intro v n xs hv e
   rcases zbp hv hrow' zfy with h1 | h1
   · rw [h1] at e;cases e
   · exact h1 (by rw [e];rfl)
 have hne:∀ j,j < o.length → j ≠ a → (U j).ownBlock ≠ some g:=by
   intro j hj hja e
   rcases hat with h1 | h1
   · rcases h.apart j a hj ha hja with h2 | h2
     · rw [h2] at e;cases e
     · exact h2 (by rw [e,h1])
   · obtain ⟨fj,hfj⟩:∃ fj,o[j]? = some fj:=⟨_,List.getElem?_eq_getElem hj⟩
     have:=(World.ownsRow.lt (h.ids j fj hfj) g e).2
     omega
 refine ⟨?_,fun i f' hf'=>?_,fun i j hi hj hij=>?_⟩
 · rw [List.length_set]
   have e:=zma U o 0 a f ⟨f.ids ++ [s],f.v⟩ (.slice (some ⟨g,0,none⟩) n cap) hf rfl
   rw [Nat.zero_add] at e
   rw [e]
   exact zj6 hrow' _ (by omega)
 · by_cases e:i = a
   · subst e
     rw [List.getElem?_set_self (by exact ha)] at hf'
     simp at hf';subst hf'
     rw [zbr]
     refine ownsRow_setCell_other (OwnT.push hown hn) ?_ _
     exact hgl hown
   · rw [List.getElem?_set_ne (fun e'=>e e'.symm)] at hf'
     rw [zbb _ _ e]
     have hi:=posA hf'
     have hk:OwnT w' base f'.ids (U i):=World.ownsRow.kept (h.ids i f' hf') hgrow (h.apart i a hi ha e)
     exact ownsRow_setCell_other hk (hgl hk) _
 · rw [List.length_set] at hi hj
   by_cases e:i = a
   · subst e
     rw [zbr,zbb _ _ (fun e=>hij e.symm)]
     exact .inr fun e=>hne j hj (fun e'=>hij e'.symm) (by rw [← e];rfl)
   · rw [zbb _ _ e]
     by_cases e':j = a
     · subst e'
       rw [zbr]
       exact .inr fun e2=>hne i hi e (by rw [e2];rfl)
     · rw [zbb _ _ e'];exact h.apart i j hi hj hij
end Go.Proofs.YthnllikalobmeaaGreat
namespace Go.Proofs.YthnllikalobmeaaGreat
set_option linter.unusedVariables false
set_option linter.unusedSimpArgs false
set_option maxRecDepth 100000
set_option maxHeartbeats 8000000
open Go.ChangeShapes Go.WideShapes Go.ChangeAt Go.RowKit Go.Deep
section
variable {H:Type} {enc:TypeId × Value → H} {w:World} {base:Nat} {spare:Nat → Bool} {held:Bool} {fuel:Nat} {cs:List Value} {x:DataW H × List MemPlace}
theorem zm7 (h:DataW.trod enc Tryz.prog w base spare held fuel 28 cs = some x):∃ A:Nat → Int,cs = (arr8 A).toList:=by
 obtain ⟨xs,n,_,ex,hl,hlen,hel⟩:=DataW.trod_array Tryz.underlying28 h
 have hl':cs.length = 8:=hl.trans (by kernel_rfl)
 have hc:Tryz.prog.cellsOf 3 = 1:=by kernel_rfl
 have F:∀ i,i < 8 → ∃ z:Int,cs[i]? = some (.int .i64 z):=by
   intro i hi
   have h1:=hel i hi
   rw [hc,Nat.mul_one,List.drop_eq_getElem_cons (by omega)] at h1
   have h2:xs[i]? = some (xs[i]'(by omega)):=List.getElem?_eq_getElem (by omega)
   obtain ⟨z,k,_⟩:=DataW.trod_int Tryz.underlying3 (h1.trans h2)
   simp only [List.take_succ_cons,List.take_zero,List.cons.injEq,and_true] at k
   exact ⟨z,by rw [List.getElem?_eq_getElem (by omega),k]⟩
 have G:∃ A:Nat → Int,∀ i,i < 8 → cs[i]? = some (.int .i64 (A i)) :=
   ⟨fun i=>if h:i < 8 then Classical.choose (F i h) else 0,fun i hi=>by simp only [dif_pos hi];exact Classical.choose_spec (F i hi)⟩
 obtain ⟨A,hA⟩:=G
 refine ⟨A,List.ext_getElem? fun i=>?_⟩
 by_cases hi:i < 8
 · rw [hA i hi,Array.getElem?_toList,zee A hi]
 · rw [List.getElem?_eq_none (by omega),List.getElem?_eq_none (by simp;omega)]
end
end Go.Proofs.YthnllikalobmeaaGreat
namespace Go.Proofs.YthnllikalobmeaaGreat
set_option linter.unusedVariables false
set_option linter.unusedSimpArgs false
set_option maxRecDepth 100000
set_option maxHeartbeats 8000000
structure It where
 id:ByteArray
 kd:ByteArray
 num:Int
 ax:Nat
 ay:Nat
def begB (s t:ByteArray):Bool:=t.data.toList.isPrefixOf s.data.toList
namespace Pr
mutual
def hasB (i:It):Pr → Bool
 | node op t n x y k =>
   if op = 1 then true
   else if op = 3 then decide (i.kd.toList = t.toList)
   else if op = 4 then begB i.id t
   else if op = 5 then decide (i.num < n)
   else if op = 6 then decide (n ≤ i.num)
   else if op = 7 then zje i.ax i.ay x y n
   else if op = 8 then hasAll i k
   else if op = 9 then hasAny i k
   else if op = 10 then hasNot i k
   else false
def hasAll (i:It):List Pr → Bool | []=>true | a :: l=>hasB i a && hasAll i l
def hasAny (i:It):List Pr → Bool | []=>false | a :: l=>hasB i a || hasAny i l
def hasNot (i:It):List Pr → Bool | []=>false | a :: _=>!hasB i a
end
end Pr
end Go.Proofs.YthnllikalobmeaaGreat
namespace Go.Proofs.YthnllikalobmeaaGreat
set_option linter.unusedVariables false
set_option linter.unusedSimpArgs false
set_option maxRecDepth 100000
set_option maxHeartbeats 8000000
open Go.RowKit
theorem fr_ok {w:World} {l:List Fr} {U:Nat → Value} {oa:Option Addr} {cap b o:Nat} (h:FrAt w l U oa cap b o):∀ s ∈ zah l,s.size ≤ maxLen:=by
 intro s hs
 unfold zah at hs
 rw [List.mem_flatMap] at hs
 obtain ⟨f,hf,hs⟩:=hs
 obtain ⟨k,hk,e⟩:=List.mem_iff_getElem.1 hf
 exact (h.ids k f (by rw [List.getElem?_eq_getElem hk,e])).ok s hs
end Go.Proofs.YthnllikalobmeaaGreat
