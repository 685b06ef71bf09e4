/- Joined: KPlS, RefSt5, LocA, RowF. -/
import Derived.Test.YthnllikalobmeaaGreatJ15
import Derived.Test.YthnllikalobmeaaGreatJ19
import Derived.Test.YthnllikalobmeaaGreatJ27
import Derived.Test.YthnllikalobmeaaGreatJ07
import Derived.Test.YthnllikalobmeaaGreatJ22
import Derived.Test.YthnllikalobmeaaGreatJ18
import Derived.Lib.SliceRun
namespace Go.Proofs.YthnllikalobmeaaGreat
set_option linter.unusedVariables false
set_option linter.unusedSimpArgs false
set_option maxRecDepth 100000
set_option maxHeartbeats 8000000
open Go.RowKit Go.Maps
def FrOwn (w:World) (B:Nat) (l:List Fr) (v:Value):Prop:=(∀ f ∈ l,∀ s ∈ f.ids,s.size ≤ maxLen) ∧ ∃ U,PK w B l U v
theorem PK.mono {w:World} {base B:Nat} {o:List Fr} {U:Nat → Value} {Lv:Value} (h:PK w base o U Lv) (hB:B ≤ base):PK w B o U Lv :=
 ⟨⟨h.row.1,h.row.2.imp id fun ⟨g,cap,cur,h1,h2,h3⟩=>⟨g,cap,cur,h1,Nat.le_trans hB h2,h3⟩⟩,fun i f hf=>(h.ids i f hf).mono hB,h.apart⟩
theorem FrOwn.fresh {w:World} {B:Nat} {l:List Fr} {v:Value} (h:FrOwn w B l v):FrFresh w B l v:=by
 obtain ⟨hok,U,h⟩:=h
 exact h.fresh (Nat.le_refl _) hok
theorem FrOwn.fr {w:World} {B:Nat} {l:List Fr} {v:Value} (h:FrOwn w B l v):FrW w l v:=h.fresh.fr
theorem FrOwn.mono {w:World} {B B':Nat} {l:List Fr} {v:Value} (h:FrOwn w B l v) (hB:B' ≤ B):FrOwn w B' l v:=by
 obtain ⟨hok,U,h⟩:=h
 exact ⟨hok,U,h.mono hB⟩
theorem FrOwn.setLow {w:World} {B:Nat} {l:List Fr} {v:Value} (h:FrOwn w B l v) {a:Addr} (ha:a.block < B) (u:Value):FrOwn (w.setCell a u) B l v:=by
 obtain ⟨hok,U,h⟩:=h
 exact ⟨hok,U,h.setLow ha u⟩
structure KP (w0:World) (base bm bp nc:Nat) (X Z:Array Value) (ids:List ByteArray) (raw:ByteArray → Nat → Int) (names:List ByteArray) (nv:Value) (vs:List (Nat → Int)) (o:List Fr) (U:Nat → Value) (Lv:Value) (wr:World):Prop where
 o1:Own wr w0.heap.size X 31
 o2:Own wr (w0.heap.size + 1) Z 31
 cnt:Cnt wr bm nc ids raw
 pcs:Pcs wr bp vs
 nm:OwnT wr w0.heap.size names nv
 nb:∀ b,nv.ownBlock = some b → b < base
 pk:PK wr base o U Lv
 bel:Below w0.heap.size w0 wr
 hb:w0.heap.size + 1 < bp
 hm:bm < base ∧ bm ≠ bp
 hp:bp < base
 hw:base ≤ wr.heap.size
section
variable {w0 wr w':World} {base bm bp nc:Nat} {X Z:Array Value} {ids:List ByteArray} {raw:ByteArray → Nat → Int} {names:List ByteArray} {nv:Value} {vs:List (Nat → Int)} {o:List Fr} {U:Nat → Value} {Lv:Value}
theorem KP.low (h:KP w0 base bm bp nc X Z ids raw names nv vs o U Lv wr) (hs:∀ b,b < base → w'.heap[b]? = wr.heap[b]?):Own w' w0.heap.size X 31 ∧ Own w' (w0.heap.size + 1) Z 31 ∧ Cnt w' bm nc ids raw ∧ Pcs w' bp vs ∧ OwnT w' w0.heap.size names nv:=by
 have h1:=h.hb;have h2:=h.hm;have h3:=h.hp
 refine ⟨⟨(hs _ (by omega)).trans h.o1.blk⟩,⟨(hs _ (by omega)).trans h.o2.blk⟩,?_,(hs _ h3).trans h.pcs,?_⟩
 · obtain ⟨D,⟨es,clock,q1,F,q2,q3⟩,r⟩:=h.cnt
   exact ⟨D,⟨es,clock,(hs _ h2.1).trans q1,F,q2,q3⟩,r⟩
 · refine ⟨h.nm.1,?_⟩
   rcases h.nm.2 with q | ⟨g,cap,cur,hv,hg,hh,r⟩
   · exact .inl q
   · exact .inr ⟨g,cap,cur,hv,hg,(hs g (h.nb g (by rw [hv];rfl))).trans hh,r⟩
theorem KP.later (h:KP w0 base bm bp nc X Z ids raw names nv vs o U Lv wr) (hb:Below wr.heap.size wr w'):KP w0 base bm bp nc X Z ids raw names nv vs o U Lv w' :=
 have hl:=h.low (w':=w') fun b hlt=>hb.block b (Nat.lt_of_lt_of_le hlt h.hw)
 ⟨hl.1,hl.2.1,hl.2.2.1,hl.2.2.2.1,hl.2.2.2.2,h.nb,h.pk.later hb,h.bel.trans (hb.mono h.bel.size),h.hb,h.hm,h.hp,Nat.le_trans h.hw hb.size⟩
theorem KP.alloc (h:KP w0 base bm bp nc X Z ids raw names nv vs o U Lv wr) (ob:Obj):KP w0 base bm bp nc X Z ids raw names nv vs o U Lv (wr.alloc ob):=h.later ((Below.refl _ _).alloc (Nat.le_refl _) _)
theorem KP.put (h:KP w0 base bm bp nc X Z ids raw names nv vs o U Lv wr) {vs':List (Nat → Int)} (hp:Pcs w' bp vs') (hg:wr.grownBy w' (some bp)):KP w0 base bm bp nc X Z ids raw names nv vs' o U Lv w':=by
 have h1:=h.hb;have h2:=h.hm;have h3:=h.hp;have h4:=h.hw;have h5:=h.bel.size
 have hs:∀ b,b < wr.heap.size → b ≠ bp → w'.heap[b]? = wr.heap[b]?:=fun b hb hne=>hg.block b hb (by simp [hne])
 refine ⟨⟨(hs _ (by omega) (by omega)).trans h.o1.blk⟩,⟨(hs _ (by omega) (by omega)).trans h.o2.blk⟩,?_,hp,?_,h.nb,h.pk.kept fun b hb hlt=>hs b hlt (by omega),h.bel.grown hg (by omega) (fun k hk=>by cases hk;omega),h.hb,h.hm,h.hp,Nat.le_trans h.hw hg.size⟩
 · obtain ⟨D,⟨es,clock,q1,F,q2,q3⟩,r⟩:=h.cnt
   exact ⟨D,⟨es,clock,(hs _ (by omega) h2.2).trans q1,F,q2,q3⟩,r⟩
 · refine World.ownsRow.kept h.nm hg ?_
   rcases h.nm.2 with ⟨rfl,_⟩ | ⟨g,cap,cur,rfl,_,hh,_⟩
   · exact .inl rfl
   · right
     intro e
     simp only [Value.ownBlock,Option.some.injEq] at e
     subst e
     have hq:=h.pcs
     unfold Pcs at hq
     rw [hh] at hq
     cases hq
theorem KP.grow (h:KP w0 base bm bp nc X Z ids raw names nv vs o U Lv wr) {row:Option Nat} (hg:wr.grownBy w' row) (hr:∀ k,row = some k → base ≤ k) {o':List Fr} {U':Nat → Value} {Lv':Value} (hk:PK w' base o' U' Lv'):KP w0 base bm bp nc X Z ids raw names nv vs o' U' Lv' w' :=
 have hl:=h.low (w':=w') fun b hlt=>hg.block b (Nat.lt_of_lt_of_le hlt h.hw) (fun e=>by have:=hr b e.symm;omega)
 ⟨hl.1,hl.2.1,hl.2.2.1,hl.2.2.2.1,hl.2.2.2.2,h.nb,hk,h.bel.grown hg h.bel.size (fun k hk=>by have:=hr k hk;have:=h.hb;have:=h.hp;omega),h.hb,h.hm,h.hp,Nat.le_trans h.hw hg.size⟩
theorem KP.addF (h:KP w0 base bm bp nc X Z ids raw names nv vs o U Lv wr) (v:Nat → Int) {g n cap:Nat} (hn:n = o.length + 1)
   (hown:w'.ownsRow base 105 9 (.slice (some ⟨g,0,none⟩) n cap) n (frCs U 0 o ++ fc ⟨[],v⟩ (.slice none 0 0))) (hgrow:wr.grownBy w' Lv.ownBlock) :
   KP w0 base bm bp nc X Z ids raw names nv vs (o ++ [⟨[],v⟩]) (updU U o.length (.slice none 0 0)) (.slice (some ⟨g,0,none⟩) n cap) w' :=
 h.grow hgrow (fun k hk=>(World.ownsRow.lt h.pk.row k hk).1) (h.pk.pushF v hn hown hgrow)
theorem KP.addT {gl nl cl:Nat} (h:KP w0 base bm bp nc X Z ids raw names nv vs o U (.slice (some ⟨gl,0,none⟩) nl cl) wr) {a:Nat} {f:Fr} (hf:o[a]? = some f) (s:ByteArray) {g n cap:Nat} (hn:n = f.ids.length + 1)
   (hown:w'.ownsRow base 9 1 (.slice (some ⟨g,0,none⟩) n cap) n (txC f.ids ++ [.string s])) (hgrow:wr.grownBy w' (U a).ownBlock) (hat:(U a).ownBlock = some g ∨ g = wr.heap.size) :
   KP w0 base bm bp nc X Z ids raw names nv vs (o.set a ⟨f.ids ++ [s],f.v⟩) (updU U a (.slice (some ⟨g,0,none⟩) n cap)) (.slice (some ⟨gl,0,none⟩) nl cl) (w'.setCell ⟨gl,a * 9,none⟩ (.slice (some ⟨g,0,none⟩) n cap)):=by
 have hu:=h.pk.ids a f hf
 have hgl:base ≤ gl:=(World.ownsRow.lt h.pk.row gl rfl).1
 have hr:∀ k,(U a).ownBlock = some k → base ≤ k:=fun k hk=>(World.ownsRow.lt hu k hk).1
 have hl:=h.low (w':=w'.setCell ⟨gl,a * 9,none⟩ (.slice (some ⟨g,0,none⟩) n cap)) fun b hlt=>(Below.heap_setCell _ _ _ _ (by show b ≠ gl;omega)).trans (hgrow.block b (Nat.lt_of_lt_of_le hlt h.hw) (fun e=>by have:=hr b e.symm;omega))
 have h1:=h.hb;have h3:=h.hp;have h4:=hgrow.size;have h5:=h.hw
 exact ⟨hl.1,hl.2.1,hl.2.2.1,hl.2.2.2.1,hl.2.2.2.2,h.nb,h.pk.pushT hf s hn hown hgrow hat,(h.bel.grown hgrow h.bel.size (fun k hk=>by have:=hr k hk;omega)).setCell (by show w0.heap.size ≤ gl;omega) _,h.hb,h.hm,h.hp,by simp [World.setCell];omega⟩
theorem kp9o (h:KP w0 base bm bp nc X Z ids raw names nv vs o U Lv wr) (hok:∀ f ∈ o,∀ s ∈ f.ids,s.size ≤ maxLen) (c0 c1 c2 c3 c4 c5 c6 c7 c8:Value):FrOwn (st9 wr (w0.heap.size + 1) c0 c1 c2 c3 c4 c5 c6 c7 c8) w0.heap.size o Lv:=by
 have hb:∀ q,((⟨w0.heap.size + 1,q,none⟩:Addr)).block < base:=fun q=>by have:=h.hb;have:=h.hp;show w0.heap.size + 1 < base;omega
 exact ⟨hok,U,((((((((((h.pk.setLow (hb 0) c0).setLow (hb 1) c1).setLow (hb 2) c2).setLow (hb 3) c3).setLow (hb 4) c4).setLow (hb 5) c5).setLow (hb 6) c6).setLow (hb 7) c7).setLow (hb 8) c8).mono (by have:=h.hb;have:=h.hp;omega))⟩
end
theorem zhr {o:List Fr} {v:Nat → Int} {a:Nat} {f:Fr} (hf:o[a]? = some f) (hn:∀ j g,j < a → o[j]? = some g → eqV g.v v = false) (he:eqV f.v v = true) :
   (∀ k B,k < a → (o.map (·.v))[k]? = some B → eqV B v = false) ∧ ∃ B,(o.map (·.v))[a]? = some B ∧ eqV B v = true:=by
 refine ⟨fun k B hk hB=>?_,f.v,by simp [hf],he⟩
 rw [List.getElem?_map] at hB
 cases hg:o[k]? with
 | none=>rw [hg] at hB;cases hB
 | some g=>rw [hg] at hB;cases hB;exact hn k g hk hg
theorem zl9 (v:Nat → Int):∀ o:List Fr,(∃ (a:Nat) (f:Fr),o[a]? = some f ∧ (∀ (j:Nat) (g:Fr),j < a → o[j]? = some g → eqV g.v v = false) ∧ eqV f.v v = true) ∨ (∀ (j:Nat) (g:Fr),j < o.length → o[j]? = some g → eqV g.v v = false)
 | []=>.inr fun j g hj=>absurd hj (by simp)
 | q :: o=>by
   cases hq:eqV q.v v with
   | true=>exact .inl ⟨0,q,rfl,fun j g hj=>absurd hj (by omega),hq⟩
   | false =>
     rcases zl9 v o with ⟨a,f,h1,h2,h3⟩ | h
     · refine .inl ⟨a + 1,f,by simpa using h1,fun j g hj hg=>?_,h3⟩
       cases j with
       | zero=>simp at hg;subst hg;exact hq
       | succ j=>exact h2 j g (by omega) (by simpa using hg)
     · refine .inr fun j g hj hg=>?_
       cases j with
       | zero=>simp at hg;subst hg;exact hq
       | succ j=>exact h j g (by simpa using hj) (by simpa using hg)
theorem zgs {o:List Fr} {v:Nat → Int} (h:∀ j g,j < o.length → o[j]? = some g → eqV g.v v = false):∀ B ∈ o.map (·.v),eqV B v = false:=by
 intro B hB
 obtain ⟨g,hg,rfl⟩:=List.mem_map.1 hB
 obtain ⟨j,hj⟩:=List.getElem?_of_mem hg
 exact h j g (posA hj) hj
theorem zrh {o:List Fr} {a:Nat} {f f':Fr} (hf:o[a]? = some f) (hv:f'.v = f.v):(o.set a f').map (·.v) = o.map (·.v):=by
 rw [List.map_set,hv]
 refine List.ext_getElem? fun i=>?_
 by_cases e:a = i
 · subst e
   have hl:=posA hf
   rw [List.getElem?_set_self (by simpa using hl),List.getElem?_map,hf];rfl
 · rw [List.getElem?_set_ne e]
end Go.Proofs.YthnllikalobmeaaGreat
namespace Go.Proofs.YthnllikalobmeaaGreat
set_option linter.unusedVariables false
set_option linter.unusedSimpArgs false
set_option maxRecDepth 100000
set_option maxHeartbeats 8000000
open Go.RowKit
def newS (r:Int) (f:Pr):St:=⟨r,f,[],[],⟨zac,[]⟩,0,0,0⟩
def zyc:Pr:=.node 0 ⟨#[]⟩ 0 0 0 []
def zlm:St:=newS 0 zyc
def ze3 (r:Int) (f:Pr):Bool:=Pr.mayB f && inB r 1 8
abbrev stN (r:Int) (f:Pr) (fv:Value):List Value:=[.int .i64 r,.int .i64 f.op,.string f.text,.int .i64 f.n,.complex .f64 f.x f.y,fv,.slice none 0 0,.slice none 0 0,.int .i64 0,.int .i64 0,.int .i64 0,.int .i64 0,.int .i64 0,.int .i64 0,.int .i64 0,.int .i64 0,.slice none 0 0,.int .i64 0,.int .i64 0,.int .i64 0]
abbrev stZ:List Value:=[.int .i64 0,.int .i64 0,.string ⟨#[]⟩,.int .i64 0,.complex .f64 0 0,.slice none 0 0,.slice none 0 0,.slice none 0 0,.int .i64 0,.int .i64 0,.int .i64 0,.int .i64 0,.int .i64 0,.int .i64 0,.int .i64 0,.int .i64 0,.slice none 0 0,.int .i64 0,.int .i64 0,.int .i64 0]
theorem zb9 (t ty e:TypeId) (i:TypeInfo) (z:Value) (size bytes:Nat) (ht:Tryz.prog.underlying t = some (.slice e)) (hi:Tryz.prog.info? e = some i) (hz:i.zero = some z)
   (hsize:i.size = size) (hby:i.bytes = bytes) (hzs:z.cells.size = size) (hsz:0 < size) {w:World} {base:Nat} {v:Value} {n:Nat} {xs:List Value} (hown:w.ownsRow base e size v n xs)
   (oa:Option Addr) (m c:Nat) (news:List Value) (hl:news.length = m * size) (hnews:0 < m → ∃ b o,oa = some ⟨b,o,none⟩ ∧ ∀ j u,news[j]? = some u → w.cell? ⟨b,o + j,none⟩ = some u) (h1:∀ u ∈ news,u.oneCell' = true)
   (h63:n + m ≤ 30000) (hb:bytes ≤ 1000) (hbase:base ≤ w.heap.size) :
   ∃ v' w',(Builtin.append_ #[t,t] ty #[v,.slice oa m c]).run Tryz.prog w = .ok v' w' ∧ w'.ownsRow base e size v' (n + m) (xs ++ news) ∧ w.grownBy w' v.ownBlock:=by
 by_cases h0:m = 0
 · subst h0
   obtain ⟨ov,cv,gv,e',h1',_⟩:=zan hown
   subst e'
   have hf:(Builtin.firstCells i.size 0 (.slice oa 0 c)).run Tryz.prog w = .ok #[] w:=by
     cases oa with
     | none=>exact run_firstCells_none w _ _ _ _
     | some a=>exact run_firstCells_some w i.size 0 a 0 c [] (by simp) (fun j v h=>by simp at h)
   have hn:news = []:=List.length_eq_zero_iff.1 (by omega)
   subst hn
   have hr:(Builtin.append_ #[t,t] ty #[.slice ov n cv,.slice oa 0 c]).run Tryz.prog w = .ok (.slice ov n cv) w:=by
     cases ov with
     | none=>simp [Builtin.append_,run_underlying ht,sizeOf,typeInfo,hi,Builtin.lenOf,h1',hf,Result.andThen]
     | some a=>simp [Builtin.append_,run_underlying ht,sizeOf,typeInfo,hi,Builtin.lenOf,h1',hf,zkx,Result.andThen]
   exact ⟨_,w,hr,by simpa using hown,⟨rfl,rfl,rfl,Nat.le_refl _,fun _ _ _=>rfl⟩⟩
 · obtain ⟨b,o,rfl,hn⟩:=hnews (by omega)
   obtain ⟨v',w',r1,r2,r3,_⟩:=run_append_own w base t ty e i z size bytes ht hi hz hsize hby hzs hsz v n xs hown ⟨b,o,none⟩ m c news hl (fun j u hu=>by rw [zeg];exact hn j u hu) h1 (by unfold maxLen;omega) (Nat.le_trans (Nat.mul_le_mul h63 hb) (by decide)) hbase
   exact ⟨v',w',r1,r2,r3⟩
theorem ze4 (w:World) (e:TypeId) (size:Nat):(w.alloc (.cells #[] e)).ownsRow w.heap.size e size (.slice (some ⟨w.heap.size,0,none⟩) 0 0) 0 [] :=
 ⟨by simp,.inr ⟨w.heap.size,0,#[],rfl,Nat.le_refl _,heap_alloc_new w _,Nat.le_refl _,Nat.zero_le _,by simp,by simp⟩⟩
theorem zw3:(Tryz.prog.info? 40).map (fun i=>(i.zero,i.size,i.bytes)) = some (some (.agg #[.int .i64 0,.string ⟨#[]⟩,.int .i64 0,.complex .f64 0 0,.slice none 0 0]),5,72):=by kernel_rfl
theorem znh (oa:Option Addr) (m c:Nat) (news:List Value) (w:World) (hl:news.length = m * 8) (hnews:0 < m → ∃ b o,oa = some ⟨b,o,none⟩ ∧ b < w.heap.size ∧ ∀ j u,news[j]? = some u → w.cell? ⟨b,o + j,none⟩ = some u) (h1:∀ u ∈ news,u.oneCell' = true) (hm:m ≤ 30000) (hc:c ≤ maxLen) :
   Calls Tryz.prog 56 #[.slice oa m c] w fun e w'=>∃ v',e = .returned v' ∧ w'.ownsRow w.heap.size 69 8 v' m news ∧ Below w.heap.size w w':=by
 obtain ⟨j0,hj,hy0,hy1,hy2⟩:=info_parts zb1
 cases oa with
 | none =>
   have hm0:m = 0:=by
     rcases Nat.eq_zero_or_pos m with h | h
     · exact h
     · obtain ⟨_,_,h2,_⟩:=hnews h;cases h2
   subst hm0
   have hn:news = []:=List.length_eq_zero_iff.1 (by omega)
   subst hn
   clear hnews h1 hl
   have qT:∀ w:World,(binOp .eql 41 (.slice none 0 c) (.slice none 0 0)).run Tryz.prog w = .ok (.bool true) w:=fun w=>Lib.run_eql_slice_nil w _ _ none 0 c 0 0 Tryz.underlying41
   go_enter Tryz.func56,Tryz.ntmps56
   go_wp2_with fail
   go_ret
   exact ⟨_,rfl,World.ownsRow_nil _ _ _ _,Below.refl _ _⟩
 | some a =>
   have B0:Below w.heap.size w (w.alloc (.cells #[] 69)):=(Below.refl _ _).alloc (Nat.le_refl _) _
   have HA:=Lib.hid (fun ty=>zb9 41 ty 69 j0 _ 8 88 Tryz.underlying41 hj hy0 hy1 hy2 rfl (by omega) (ze4 w 69 8) (some a) m c news hl (fun h=>by
     obtain ⟨b,o,e,hb,hn⟩:=hnews h
     exact ⟨b,o,e,fun j u hu=>(B0.cell (p:=⟨b,o + j,none⟩) hb).trans (hn j u hu)⟩) h1 (by omega) (by omega) B0.size)
   have HB0:=Lib.hid B0
   clear hnews h1 hl B0 hj hy0 hy1 hy2
   have qT:∀ w:World,(binOp .eql 41 (.slice (some a) m c) (.slice none 0 0)).run Tryz.prog w = .ok (.bool false) w:=fun w=>Lib.run_eql_slice_nil w _ _ (some a) m c 0 0 Tryz.underlying41
   go_enter Tryz.func56,Tryz.ntmps56
   go_wp2_with (at_builtin;obtain ⟨v',w',hrun,hown,hgr⟩:=HA.out _;refine Lib.wpList_append_run _ rfl _ _ _ _ rfl _ _ rfl rfl _ _ hrun ?_)
   go_ret
   exact ⟨_,rfl,by simpa using hown,HB0.out.grown hgr HB0.out.size (fun k hk=>by simp [Value.ownBlock] at hk;omega)⟩
theorem zng (oa:Option Addr) (m c:Nat) (news:List Value) (w:World) (hl:news.length = m * 9) (hnews:0 < m → ∃ b o,oa = some ⟨b,o,none⟩ ∧ b < w.heap.size ∧ ∀ j u,news[j]? = some u → w.cell? ⟨b,o + j,none⟩ = some u) (h1:∀ u ∈ news,u.oneCell' = true) (hm:m ≤ 30000) (hc:c ≤ maxLen) :
   Calls Tryz.prog 115 #[.slice oa m c] w fun e w'=>∃ v',e = .returned v' ∧ w'.ownsRow w.heap.size 105 9 v' m news ∧ Below w.heap.size w w':=by
 obtain ⟨j0,hj,hy0,hy1,hy2⟩:=info_parts zc5
 cases oa with
 | none =>
   have hm0:m = 0:=by
     rcases Nat.eq_zero_or_pos m with h | h
     · exact h
     · obtain ⟨_,_,h2,_⟩:=hnews h;cases h2
   subst hm0
   have hn:news = []:=List.length_eq_zero_iff.1 (by omega)
   subst hn
   clear hnews h1 hl
   have qT:∀ w:World,(binOp .eql 29 (.slice none 0 c) (.slice none 0 0)).run Tryz.prog w = .ok (.bool true) w:=fun w=>Lib.run_eql_slice_nil w _ _ none 0 c 0 0 Tryz.underlying29
   go_enter Tryz.func115,Tryz.ntmps115
   go_wp2_with fail
   go_ret
   exact ⟨_,rfl,World.ownsRow_nil _ _ _ _,Below.refl _ _⟩
 | some a =>
   have B0:Below w.heap.size w (w.alloc (.cells #[] 105)):=(Below.refl _ _).alloc (Nat.le_refl _) _
   have HA:=Lib.hid (fun ty=>zb9 29 ty 105 j0 _ 9 88 Tryz.underlying29 hj hy0 hy1 hy2 rfl (by omega) (ze4 w 105 9) (some a) m c news hl (fun h=>by
     obtain ⟨b,o,e,hb,hn⟩:=hnews h
     exact ⟨b,o,e,fun j u hu=>(B0.cell (p:=⟨b,o + j,none⟩) hb).trans (hn j u hu)⟩) h1 (by omega) (by omega) B0.size)
   have HB0:=Lib.hid B0
   clear hnews h1 hl B0 hj hy0 hy1 hy2
   have qT:∀ w:World,(binOp .eql 29 (.slice (some a) m c) (.slice none 0 0)).run Tryz.prog w = .ok (.bool false) w:=fun w=>Lib.run_eql_slice_nil w _ _ (some a) m c 0 0 Tryz.underlying29
   go_enter Tryz.func115,Tryz.ntmps115
   go_wp2_with (at_builtin;obtain ⟨v',w',hrun,hown,hgr⟩:=HA.out _;refine Lib.wpList_append_run _ rfl _ _ _ _ rfl _ _ rfl rfl _ _ hrun ?_)
   go_ret
   exact ⟨_,rfl,by simpa using hown,HB0.out.grown hgr HB0.out.size (fun k hk=>by simp [Value.ownBlock] at hk;omega)⟩
theorem znj (oa:Option Addr) (m c:Nat) (news:List Value) (w:World) (hl:news.length = m * 1) (hnews:0 < m → ∃ b o,oa = some ⟨b,o,none⟩ ∧ b < w.heap.size ∧ ∀ j u,news[j]? = some u → w.cell? ⟨b,o + j,none⟩ = some u) (h1:∀ u ∈ news,u.oneCell' = true) (hm:m ≤ 30000) (hc:c ≤ maxLen) :
   Calls Tryz.prog 116 #[.slice oa m c] w fun e w'=>∃ v',e = .returned v' ∧ w'.ownsRow w.heap.size 9 1 v' m news ∧ Below w.heap.size w w':=by
 obtain ⟨j0,hj,hy0,hy1,hy2⟩:=info_parts zkl
 cases oa with
 | none =>
   have hm0:m = 0:=by
     rcases Nat.eq_zero_or_pos m with h | h
     · exact h
     · obtain ⟨_,_,h2,_⟩:=hnews h;cases h2
   subst hm0
   have hn:news = []:=List.length_eq_zero_iff.1 (by omega)
   subst hn
   clear hnews h1 hl
   have qT:∀ w:World,(binOp .eql 103 (.slice none 0 c) (.slice none 0 0)).run Tryz.prog w = .ok (.bool true) w:=fun w=>Lib.run_eql_slice_nil w _ _ none 0 c 0 0 Tryz.underlying103
   go_enter Tryz.func116,Tryz.ntmps116
   go_wp2_with fail
   go_ret
   exact ⟨_,rfl,World.ownsRow_nil _ _ _ _,Below.refl _ _⟩
 | some a =>
   have B0:Below w.heap.size w (w.alloc (.cells #[] 9)):=(Below.refl _ _).alloc (Nat.le_refl _) _
   have HA:=Lib.hid (fun ty=>zb9 103 ty 9 j0 _ 1 16 Tryz.underlying103 hj hy0 hy1 hy2 rfl (by omega) (ze4 w 9 1) (some a) m c news hl (fun h=>by
     obtain ⟨b,o,e,hb,hn⟩:=hnews h
     exact ⟨b,o,e,fun j u hu=>(B0.cell (p:=⟨b,o + j,none⟩) hb).trans (hn j u hu)⟩) h1 (by omega) (by omega) B0.size)
   have HB0:=Lib.hid B0
   clear hnews h1 hl B0 hj hy0 hy1 hy2
   have qT:∀ w:World,(binOp .eql 103 (.slice (some a) m c) (.slice none 0 0)).run Tryz.prog w = .ok (.bool false) w:=fun w=>Lib.run_eql_slice_nil w _ _ (some a) m c 0 0 Tryz.underlying103
   go_enter Tryz.func116,Tryz.ntmps116
   go_wp2_with (at_builtin;obtain ⟨v',w',hrun,hown,hgr⟩:=HA.out _;refine Lib.wpList_append_run _ rfl _ _ _ _ rfl _ _ rfl rfl _ _ hrun ?_)
   go_ret
   exact ⟨_,rfl,by simpa using hown,HB0.out.grown hgr HB0.out.size (fun k hk=>by simp [Value.ownBlock] at hk;omega)⟩
theorem zni (oa:Option Addr) (m c:Nat) (news:List Value) (w:World) (hl:news.length = m * 5) (hnews:0 < m → ∃ b o,oa = some ⟨b,o,none⟩ ∧ b < w.heap.size ∧ ∀ j u,news[j]? = some u → w.cell? ⟨b,o + j,none⟩ = some u) (h1:∀ u ∈ news,u.oneCell' = true) (hm:m ≤ 30000) (hc:c ≤ maxLen) :
   Calls Tryz.prog 96 #[.slice oa m c] w fun e w'=>∃ v',e = .returned v' ∧ w'.ownsRow w.heap.size 40 5 v' m news ∧ Below w.heap.size w w':=by
 obtain ⟨j0,hj,hy0,hy1,hy2⟩:=info_parts zw3
 cases oa with
 | none =>
   have hm0:m = 0:=by
     rcases Nat.eq_zero_or_pos m with h | h
     · exact h
     · obtain ⟨_,_,h2,_⟩:=hnews h;cases h2
   subst hm0
   have hn:news = []:=List.length_eq_zero_iff.1 (by omega)
   subst hn
   clear hnews h1 hl
   have qT:∀ w:World,(binOp .eql 38 (.slice none 0 c) (.slice none 0 0)).run Tryz.prog w = .ok (.bool true) w:=fun w=>Lib.run_eql_slice_nil w _ _ none 0 c 0 0 Tryz.underlying38
   go_enter Tryz.func96,Tryz.ntmps96
   go_wp2_with fail
   go_ret
   exact ⟨_,rfl,World.ownsRow_nil _ _ _ _,Below.refl _ _⟩
 | some a =>
   have B0:Below w.heap.size w (w.alloc (.cells #[] 40)):=(Below.refl _ _).alloc (Nat.le_refl _) _
   have HA:=Lib.hid (fun ty=>zb9 38 ty 40 j0 _ 5 72 Tryz.underlying38 hj hy0 hy1 hy2 rfl (by omega) (ze4 w 40 5) (some a) m c news hl (fun h=>by
     obtain ⟨b,o,e,hb,hn⟩:=hnews h
     exact ⟨b,o,e,fun j u hu=>(B0.cell (p:=⟨b,o + j,none⟩) hb).trans (hn j u hu)⟩) h1 (by omega) (by omega) B0.size)
   have HB0:=Lib.hid B0
   clear hnews h1 hl B0 hj hy0 hy1 hy2
   have qT:∀ w:World,(binOp .eql 38 (.slice (some a) m c) (.slice none 0 0)).run Tryz.prog w = .ok (.bool false) w:=fun w=>Lib.run_eql_slice_nil w _ _ (some a) m c 0 0 Tryz.underlying38
   go_enter Tryz.func96,Tryz.ntmps96
   go_wp2_with (at_builtin;obtain ⟨v',w',hrun,hown,hgr⟩:=HA.out _;refine Lib.wpList_append_run _ rfl _ _ _ _ rfl _ _ rfl rfl _ _ hrun ?_)
   go_ret
   exact ⟨_,rfl,by simpa using hown,HB0.out.grown hgr HB0.out.size (fun k hk=>by simp [Value.ownBlock] at hk;omega)⟩
theorem zeh (l:List Itm) (v:Value) (w:World) (hR:Row 8 ic w l v) (hm:l.length ≤ 30000) :
   Calls Tryz.prog 56 #[v] w fun e w'=>∃ v',e = .returned v' ∧ OwnI w' w.heap.size l v' ∧ Below w.heap.size w w':=by
 obtain ⟨oa,cap,b,o,rfl,h⟩:=hR
 exact znh oa l.length cap (zap l) w (zcn l) (fun h0=>⟨b,o,(h.at0 h0).1,(h.at0 h0).2,fun j u hu=>by
   obtain ⟨rfl,_⟩:=h.at0 h0
   have:=zg0 h rfl j u hu
   rwa [zeg] at this⟩) (zhp l) hm h.max
theorem zlv (l:List ByteArray) (v:Value) (w:World) (hR:TxW w l v) (hm:l.length ≤ 30000) :
   Calls Tryz.prog 116 #[v] w fun e w'=>∃ v',e = .returned v' ∧ OwnT w' w.heap.size l v' ∧ Below w.heap.size w w':=by
 obtain ⟨oa,cap,b,o,rfl,h⟩:=hR
 exact znj oa l.length cap (txC l) w (by simp [txC]) (fun h0=>⟨b,o,(h.at0 h0).1,(h.at0 h0).2,fun j u hu=>by
   unfold txC at hu
   rw [List.getElem?_map] at hu
   obtain ⟨s,hs,rfl⟩:=Option.map_eq_some_iff.1 hu
   exact h.cell j s hs⟩) (fun u hu=>by
   unfold txC at hu
   obtain ⟨s,_,rfl⟩:=List.mem_map.1 hu
   rfl) hm h.max
theorem zlt (l:List Fr) (U:Nat → Value) (oa:Option Addr) (cap b o:Nat) (w:World) (h:FrAt w l U oa cap b o) (hm:l.length ≤ 30000) :
   Calls Tryz.prog 115 #[.slice oa l.length cap] w fun e w'=>∃ v',e = .returned v' ∧ w'.ownsRow w.heap.size 105 9 v' l.length (frCs U 0 l) ∧ Below w.heap.size w w' :=
 zng oa l.length cap (frCs U 0 l) w (zdn U 0 l) (fun h0=>⟨b,o,(h.at0 h0).1,(h.at0 h0).2,fun j u hu=>by
   obtain ⟨rfl,_⟩:=h.at0 h0
   have:=zkg h j u hu
   rwa [zeg] at this⟩) (zkp h) hm h.max
theorem zlu (l:List Pr) (V:Nat → Value) (oa:Option Addr) (cap b o:Nat) (w:World) (hc:cap ≤ maxLen) (hn:0 < l.length → oa = some ⟨b,o,none⟩ ∧ b < w.heap.size)
   (hcell:∀ i p,l[i]? = some p → ∀ j u,(pc p (V i))[j]? = some u → w.cell? ⟨b,o + i * 5 + j,none⟩ = some u) (h1:∀ i p,l[i]? = some p → (V i).oneCell' = true) (hm:l.length ≤ 30000) :
   Calls Tryz.prog 96 #[.slice oa l.length cap] w fun e w'=>∃ v',e = .returned v' ∧ w'.ownsRow w.heap.size 40 5 v' l.length (zar V 0 l) ∧ Below w.heap.size w w' :=
 zni oa l.length cap (zar V 0 l) w (zmv V 0 l) (fun h0=>⟨b,o,(hn h0).1,(hn h0).2,fun j u hu=>by
   have hj:=(List.getElem?_eq_some_iff.1 hu).1
   rw [zmv] at hj
   have hp:l[j / 5]? = some l[j / 5]:=List.getElem?_eq_getElem (by omega)
   have e:j = j / 5 * 5 + j % 5:=by omega
   rw [e,zel V 0 l _ _ hp _ (by omega),Nat.zero_add] at hu
   have:=hcell _ _ hp _ _ hu
   rw [show o + j / 5 * 5 + j % 5 = o + j by omega] at this
   exact this⟩) (ztp fun i p hp=>by rw [Nat.zero_add];exact h1 i p hp) hm hc
def RowF (w:World) (B:Nat) (l:List Itm) (v:Value):Prop:=∃ oa cap b o,v = .slice oa l.length cap ∧ RowAt 8 ic w l oa cap b o ∧ (0 < l.length → B ≤ b)
theorem RowF.row {w:World} {B:Nat} {l:List Itm} {v:Value} (h:RowF w B l v):Row 8 ic w l v:=by
 obtain ⟨oa,cap,b,o,e,h,_⟩:=h;exact ⟨oa,cap,b,o,e,h⟩
theorem RowF.later {w w':World} {B:Nat} {l:List Itm} {v:Value} (h:RowF w B l v) (hb:Below w.heap.size w w'):RowF w' B l v:=by
 obtain ⟨oa,cap,b,o,e,h,h2⟩:=h;exact ⟨oa,cap,b,o,e,h.later hb,h2⟩
theorem RowF.sub {w w':World} {B:Nat} {l:List Itm} {v:Value} (h:RowF w B l v) (hs:w.heap.size ≤ w'.heap.size) (hc:∀ b o,B ≤ b → w'.cell? ⟨b,o,none⟩ = w.cell? ⟨b,o,none⟩):RowF w' B l v:=by
 obtain ⟨oa,cap,b,o,e,h,h2⟩:=h
 refine ⟨oa,cap,b,o,e,⟨h.len,h.max,fun h0=>⟨(h.at0 h0).1,Nat.lt_of_lt_of_le (h.at0 h0).2 hs⟩,fun k i hk j u hu=>?_,h.ok⟩,h2⟩
 rw [hc _ _ (h2 (by have:=zbj hk;omega))]
 exact h.cell k i hk j u hu
theorem RowF.set {w:World} {B:Nat} {l:List Itm} {v:Value} (h:RowF w B l v) {b q:Nat} (hb:b < B) (u:Value):RowF (w.setCell ⟨b,q,none⟩ u) B l v :=
 h.sub (by simp [World.setCell]) fun b' o hb'=>by
   apply World.cell?_setCell_other
   intro e
   have:b = b':=congrArg Addr.block e
   omega
theorem RowF.sets {B b:Nat} {l:List Itm} {v:Value} (hb:b < B) (vs:List Value):∀ {w:World} (o:Nat),RowF w B l v → RowF (w.setCells b o vs) B l v:=by
 induction vs with
 | nil=>intro w o h;exact h
 | cons u r ih=>intro w o h;exact ih (o + 1) (h.set hb u)
theorem RowF.mono {w:World} {B B':Nat} {l:List Itm} {v:Value} (h:RowF w B l v) (hb:B' ≤ B):RowF w B' l v:=by
 obtain ⟨oa,cap,b,o,e,h,h2⟩:=h;exact ⟨oa,cap,b,o,e,h,fun h0=>Nat.le_trans hb (h2 h0)⟩
theorem OwnI.rowF {w:World} {B:Nat} {l:List Itm} {v:Value} (h:OwnI w B l v) (hok:∀ i ∈ l,i.id.size ≤ maxLen ∧ i.kd.size ≤ maxLen):RowF w B l v:=by
 obtain ⟨oa,cap,g,e,h1,h2,hg⟩:=zan h
 have hr:=h.row hok
 subst e
 refine ⟨oa,cap,g,0,rfl,⟨h1,h2,fun h0=>⟨(hg h0).1,(hg h0).2.2⟩,fun k i hk j u hu=>?_,hok⟩,fun h0=>(hg h0).2.1⟩
 obtain ⟨oa',cap',b',o',e',hr'⟩:=hr
 cases e'
 have h0:0 < l.length:=by have:=zbj hk;omega
 have e1:=(hg h0).1
 rw [(hr'.at0 h0).1] at e1
 cases e1
 exact hr'.cell k i hk j u hu
def zay (s:St) (x:Itm):List Itm:=if hasT s.f x = true then putI (s.store.filter (neB x.id)) x else s.store.filter (neB x.id)
def laidOut (s:St) (x:Itm) (keep:Bool):List Itm:=if hasT s.f x = true then s.out.filter (neB x.id) else if keep = true then putI (s.out.filter (neB x.id)) x else s.out.filter (neB x.id)
def zuk (s:St) (x:Itm) (keep:Bool):St:=⟨s.r,s.f,zay s x,laidOut s x keep,s.k,s.count,s.clock,s.epoch⟩
end Go.Proofs.YthnllikalobmeaaGreat
