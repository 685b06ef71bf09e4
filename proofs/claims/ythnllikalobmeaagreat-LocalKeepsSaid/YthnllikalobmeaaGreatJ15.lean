/- Joined: RefPlainK. -/
import Derived.Test.YthnllikalobmeaaGreatJ11
import Derived.Test.YthnllikalobmeaaGreatJ12
import Derived.Deep.RegionLaw
import Derived.Deep.DrawnRows
import Derived.Test.YthnllikalobmeaaGreatJ09
namespace Go.Proofs.YthnllikalobmeaaGreat
set_option linter.unusedVariables false
set_option linter.unusedSimpArgs false
set_option maxRecDepth 100000
set_option maxHeartbeats 8000000
open Go.RowKit
structure PlS (w0:World) (base:Nat) (X Z:Array Value) (A:Nat → Int) (names:List ByteArray) (nv:Value) (o:List Fr) (U:Nat → Value) (Lv:Value) (wr:World):Prop where
 o1:Own wr w0.heap.size X 31
 o2:Own wr (w0.heap.size + 1) Z 31
 o3:Own wr (w0.heap.size + 1 + 1) (knA A Lv) 31
 nm:OwnT wr (w0.heap.size + 3) names nv
 nb:∀ b,nv.ownBlock = some b → b < base
 pk:PK wr base o U Lv
 bel:Below w0.heap.size w0 wr
 hb:w0.heap.size + 3 ≤ base
 hw:base ≤ wr.heap.size
section
variable {w0 wr w':World} {base:Nat} {X Z:Array Value} {A:Nat → Int} {names:List ByteArray} {nv:Value} {o:List Fr} {U:Nat → Value} {Lv:Value}
theorem PlS.later (h:PlS w0 base X Z A names nv o U Lv wr) (hb:Below wr.heap.size wr w'):PlS w0 base X Z A names nv o U Lv w' :=
 ⟨h.o1.later hb,h.o2.later hb,h.o3.later hb,h.nm.later hb,h.nb,h.pk.later hb,h.bel.trans (hb.mono h.bel.size),h.hb,Nat.le_trans h.hw hb.size⟩
theorem PlS.alloc (h:PlS w0 base X Z A names nv o U Lv wr) (ob:Obj):PlS w0 base X Z A names nv o U Lv (wr.alloc ob):=h.later ((Below.refl _ _).alloc (Nat.le_refl _) _)
theorem PlS.tx (h:PlS w0 base X Z A names nv o U Lv wr) (hok:∀ s ∈ names,s.size ≤ maxLen):TxW wr names nv:=h.nm.tx hok
theorem PlS.addF (h:PlS w0 base X Z A names nv o U Lv wr) (v:Nat → Int) {g n cap:Nat} (hn:n = o.length + 1)
   (hown:w'.ownsRow base 105 9 (.slice (some ⟨g,0,none⟩) n cap) n (frCs U 0 o ++ fc ⟨[],v⟩ (.slice none 0 0))) (hgrow:wr.grownBy w' Lv.ownBlock) :
   PlS w0 base X Z A names nv (o ++ [⟨[],v⟩]) (updU U o.length (.slice none 0 0)) (.slice (some ⟨g,0,none⟩) n cap) (w'.setCell ⟨w0.heap.size + 1 + 1,8,none⟩ (.slice (some ⟨g,0,none⟩) n cap)):=by
 have hh:=h.hb
 refine ⟨(h.o1.grown hgrow (zbl h.pk.row (by omega))).setFar _ _ (by show w0.heap.size ≠ w0.heap.size + 1 + 1;omega),(h.o2.grown hgrow (zbl h.pk.row (by omega))).setFar _ _ (by show w0.heap.size + 1 ≠ w0.heap.size + 1 + 1;omega),
   (h.o3.grown hgrow (zbl h.pk.row (by omega))).set 8 _,?_,h.nb,(h.pk.pushF v hn hown hgrow).setLow (by show w0.heap.size + 1 + 1 < base;omega) _,?_,h.hb,?_⟩
 · have h1:OwnT w' (w0.heap.size + 3) names nv:=World.ownsRow.kept h.nm hgrow (zbp h.nm h.pk.row zfy)
   exact ownsRow_setCell_below h1 (by show w0.heap.size + 1 + 1 < w0.heap.size + 3;omega) _
 · exact (h.bel.grown hgrow h.bel.size fun k hk=>by have:=(World.ownsRow.lt h.pk.row k hk).1;omega).setCell (by show w0.heap.size ≤ w0.heap.size + 1 + 1;omega) _
 · have:=hgrow.size;have:=h.hw;simp [World.setCell];omega
theorem PlS.addT {gl nl cl:Nat} (h:PlS w0 base X Z A names nv o U (.slice (some ⟨gl,0,none⟩) nl cl) wr) {a:Nat} {f:Fr} (hf:o[a]? = some f) (s:ByteArray) {g n cap:Nat} (hn:n = f.ids.length + 1)
   (hown:w'.ownsRow base 9 1 (.slice (some ⟨g,0,none⟩) n cap) n (txC f.ids ++ [.string s])) (hgrow:wr.grownBy w' (U a).ownBlock) (hat:(U a).ownBlock = some g ∨ g = wr.heap.size) :
   PlS w0 base X Z A names nv (o.set a ⟨f.ids ++ [s],f.v⟩) (updU U a (.slice (some ⟨g,0,none⟩) n cap)) (.slice (some ⟨gl,0,none⟩) nl cl) (w'.setCell ⟨gl,a * 9,none⟩ (.slice (some ⟨g,0,none⟩) n cap)):=by
 have hh:=h.hb
 have hu:=h.pk.ids a f hf
 have hgl:base ≤ gl:=(World.ownsRow.lt h.pk.row gl rfl).1
 refine ⟨(h.o1.grown hgrow (zbl hu (by omega))).setFar _ _ (by show w0.heap.size ≠ gl;omega),(h.o2.grown hgrow (zbl hu (by omega))).setFar _ _ (by show w0.heap.size + 1 ≠ gl;omega),
   (h.o3.grown hgrow (zbl hu (by omega))).setFar _ _ (by show w0.heap.size + 1 + 1 ≠ gl;omega),?_,h.nb,h.pk.pushT hf s hn hown hgrow hat,?_,h.hb,?_⟩
 · have h1:OwnT w' (w0.heap.size + 3) names nv:=World.ownsRow.kept h.nm hgrow (by
     cases hq:nv.ownBlock with
     | none=>exact .inl rfl
     | some b =>
       right
       intro e
       have h1:=h.nb b hq
       have h2:=(World.ownsRow.lt hu b e.symm).1
       omega)
   refine ownsRow_setCell_other h1 ?_ _
   intro e
   have h1:=h.nb gl e
   omega
 · exact (h.bel.grown hgrow h.bel.size fun k hk=>by have:=(World.ownsRow.lt hu k hk).1;omega).setCell (by show w0.heap.size ≤ gl;omega) _
 · have:=hgrow.size;have:=h.hw;simp [World.setCell];omega
end
theorem zs6 {F:ByteArray → Nat → Int} {l:List ByteArray} {k:Nat} {id:ByteArray} (h:l[k]? = some id):grpF F (l.take (k + 1)) = zaq F (grpF F (l.take k)) id:=by
 unfold grpF;rw [ze7 h,List.foldl_append];rfl
theorem zrw {v:Nat → Int} {id:ByteArray}:∀ {o:List Fr} {a:Nat} {f:Fr},o[a]? = some f → (∀ j g,j < a → o[j]? = some g → eqV g.v v = false) → eqV f.v v = true → putF v id o = o.set a ⟨f.ids ++ [id],f.v⟩
 | [],a,f,h,_,_=>by simp at h
 | q :: o,0,f,h,_,he=>by
   simp at h;subst h
   rw [putF,if_pos he];rfl
 | q :: o,a + 1,f,h,hn,he=>by
   simp at h
   have hq:=hn 0 q (by omega) rfl
   rw [putF,if_neg (by rw [hq];simp),List.set_cons_succ]
   rw [zrw h (fun j g hj hg=>hn (j + 1) g (by omega) (by simpa using hg)) he]
theorem zot {v:Nat → Int} {id:ByteArray}:∀ {o:List Fr},(∀ j g,j < o.length → o[j]? = some g → eqV g.v v = false) → putF v id o = (o ++ [(⟨[],v⟩:Fr)]).set o.length (⟨[] ++ [id],v⟩:Fr)
 | [],_=>by simp [putF]
 | q :: o,hn=>by
   have hq:=hn 0 q (by simp) rfl
   rw [putF,if_neg (by rw [hq];simp),zot fun j g hj hg=>hn (j + 1) g (by simp;omega) (by simpa using hg)]
   simp
theorem zos (v:Nat → Int) (id:ByteArray):∀ o:List Fr,(putF v id o).length ≤ o.length + 1
 | []=>by simp [putF]
 | q :: o=>by
   rw [putF]
   split
   · simp
   · have:=zos v id o;simp;omega
theorem zof (F:ByteArray → Nat → Int) (l:List ByteArray):∀ o:List Fr,(l.foldl (zaq F) o).length ≤ o.length + l.length:=by
 induction l with
 | nil=>intro o;simp
 | cons a l ih =>
   intro o
   rw [List.foldl_cons]
   have h1:=ih (zaq F o a)
   have h2:(zaq F o a).length ≤ o.length + 1:=by
     unfold zaq;split
     · omega
     · exact zos _ _ _
   simp only [List.length_cons];omega
theorem zvj {F:ByteArray → Nat → Int} {x:ByteArray} (l:List ByteArray):∀ o:List Fr,(∃ f ∈ l.foldl (zaq F) o,x ∈ f.ids) → x ∈ l ∨ ∃ f ∈ o,x ∈ f.ids:=by
 induction l with
 | nil=>intro o h;exact .inr h
 | cons a l ih =>
   intro o h
   rw [List.foldl_cons] at h
   rcases ih _ h with h | h
   · exact .inl (by simp [h])
   · unfold zaq at h
     split at h
     · exact .inr h
     · rcases zor h with h | h
       · exact .inl (by simp [h])
       · exact .inr h
theorem zrx {v:Nat → Int} {id:ByteArray} {o:List Fr} {f:Fr} {m:Nat} (ho:∀ g ∈ o,g.ids.length ≤ m) (hf:f ∈ putF v id o):f.ids.length ≤ m + 1:=by
 rcases zek hf with h | h | ⟨g,hg,_,h⟩
 · have:=ho f h;omega
 · subst h;simp
 · subst h;have:=ho g hg;simp;omega
theorem zq2 {F:ByteArray → Nat → Int} (l:List ByteArray):∀ (o:List Fr) (m:Nat),(∀ g ∈ o,g.ids.length ≤ m) → ∀ f ∈ l.foldl (zaq F) o,f.ids.length ≤ m + l.length:=by
 induction l with
 | nil=>intro o m h f hf;simpa using h f hf
 | cons a l ih =>
   intro o m h f hf
   rw [List.foldl_cons] at hf
   have:=ih (zaq F o a) (m + 1) (fun g hg=>by
     unfold zaq at hg
     split at hg
     · have:=h g hg;omega
     · exact zrx h hg) f hf
   simp only [List.length_cons];omega
theorem zvg {w:World} {base n g cap:Nat} {o:List Fr} {U:Nat → Value} {a:Nat} {f:Fr} (h:w.ownsRow base 105 9 (.slice (some ⟨g,0,none⟩) n cap) o.length (frCs U 0 o)) (hf:o[a]? = some f):w.cell? ⟨g,a * 9,none⟩ = some (U a):=by
 have hk:=posA hf
 have hn:n = o.length:=by
   obtain ⟨oa,cap',g',e,_⟩:=zan h
   cases e;rfl
 subst hn
 have:=h.cellAt (a * 9) (by omega)
 rw [this,show a * 9 = a * 9 + 0 by omega,zcg _ _ _ _ _ hf 0 (by omega),Nat.zero_add];rfl
theorem zx2 {w:World} {v:Nat → Int} {t:TypeId}:∀ j u,(fc ⟨[],v⟩ (.slice none 0 0))[j]? = some u → (w.alloc (.cells #[.slice none 0 0,.int .i64 (v 0),.int .i64 (v 1),.int .i64 (v 2),.int .i64 (v 3),.int .i64 (v 4),.int .i64 (v 5),.int .i64 (v 6),.int .i64 (v 7)] t)).cell? ((⟨w.heap.size,0,none⟩:Addr).add j) = some u :=
 World.news_of_block (cs:=#[.slice none 0 0,.int .i64 (v 0),.int .i64 (v 1),.int .i64 (v 2),.int .i64 (v 3),.int .i64 (v 4),.int .i64 (v 5),.int .i64 (v 6),.int .i64 (v 7)]) (t:=t) (fr:=(0,0)) (heap_alloc_new w _)
theorem oneF (f:Fr) {u:Value} (h:u.oneCell' = true):∀ z ∈ fc f u,z.oneCell' = true:=by
 intro z hz
 simp only [fc,List.mem_cons,List.not_mem_nil,or_false] at hz
 rcases hz with rfl | rfl | rfl | rfl | rfl | rfl | rfl | rfl | rfl
 · exact h
 all_goals rfl
def st9 (X:World) (b:Nat) (c0 c1 c2 c3 c4 c5 c6 c7 c8:Value):World:=(st8 X b c0 c1 c2 c3 c4 c5 c6 c7).setCell ⟨b,8,none⟩ c8
theorem zdt {X:World} {b:Nat} {z0 z1 z2 z3 z4 z5 z6 z7 z8:Value} {T:TypeId} (o:Own X b #[z0,z1,z2,z3,z4,z5,z6,z7,z8] T) (c0 c1 c2 c3 c4 c5 c6 c7 c8:Value):Own (st9 X b c0 c1 c2 c3 c4 c5 c6 c7 c8) b #[c0,c1,c2,c3,c4,c5,c6,c7,c8] T:=by
 have h:=(((((((((o.set 0 c0).set 1 c1).set 2 c2).set 3 c3).set 4 c4).set 5 c5).set 6 c6).set 7 c7).set 8 c8)
 have e:((((((((((#[z0,z1,z2,z3,z4,z5,z6,z7,z8]:Array Value).setIfInBounds 0 c0).setIfInBounds 1 c1).setIfInBounds 2 c2).setIfInBounds 3 c3).setIfInBounds 4 c4).setIfInBounds 5 c5).setIfInBounds 6 c6).setIfInBounds 7 c7).setIfInBounds 8 c8) = #[c0,c1,c2,c3,c4,c5,c6,c7,c8]:=by simp
 rw [e] at h
 exact h
theorem zcl {w X:World} {B b:Nat} (hb:Below B w X) (hp:B ≤ b) (c0 c1 c2 c3 c4 c5 c6 c7 c8:Value):Below B w (st9 X b c0 c1 c2 c3 c4 c5 c6 c7 c8) :=
 (zbq hb hp c0 c1 c2 c3 c4 c5 c6 c7).setCell (p:=⟨b,8,none⟩) hp c8
theorem FrFresh.set9 {w:World} {B b:Nat} {l:List Fr} {v:Value} (h:FrFresh w B l v) (hb:b < B) (c0 c1 c2 c3 c4 c5 c6 c7 c8:Value):FrFresh (st9 w b c0 c1 c2 c3 c4 c5 c6 c7 c8) B l v :=
 (((((((((h.setLow (a:=⟨b,0,none⟩) hb c0).setLow (a:=⟨b,1,none⟩) hb c1).setLow (a:=⟨b,2,none⟩) hb c2).setLow (a:=⟨b,3,none⟩) hb c3).setLow (a:=⟨b,4,none⟩) hb c4).setLow (a:=⟨b,5,none⟩) hb c5).setLow (a:=⟨b,6,none⟩) hb c6).setLow (a:=⟨b,7,none⟩) hb c7).setLow (a:=⟨b,8,none⟩) hb c8)
end Go.Proofs.YthnllikalobmeaaGreat
