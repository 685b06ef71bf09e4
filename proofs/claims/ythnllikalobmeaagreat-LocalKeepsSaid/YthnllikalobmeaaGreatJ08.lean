/- Joined: FarA, OpenS, Open, KnowW. -/
import Derived.Test.YthnllikalobmeaaGreatJ06
import Derived.Deep.Slices
import Derived.Test.YthnllikalobmeaaGreatJ05
import Derived.Test.YthnllikalobmeaaGreatJ01
namespace Go.Proofs.YthnllikalobmeaaGreat
set_option linter.unusedVariables false
set_option linter.unusedSimpArgs false
set_option maxRecDepth 100000
set_option maxHeartbeats 8000000
open Go.RowKit
end Go.Proofs.YthnllikalobmeaaGreat
namespace Go.Proofs.YthnllikalobmeaaGreat
set_option linter.unusedVariables false
set_option linter.unusedSimpArgs false
set_option maxRecDepth 100000
set_option maxHeartbeats 8000000
open Go.ChangeShapes Go.WideShapes Go.ChangeAt Go.RowKit Go.Deep
theorem zha {a:Addr} (h:a.spot = none) (n:Nat):a.add n = ⟨a.block,a.off + n,none⟩:=by
 obtain ⟨b,o,s⟩:=a
 simp only at h;subst h
 unfold Addr.add;split <;> simp_all
theorem zhy {a:Addr} (h:a.spot = none):a = ⟨a.block,a.off,none⟩:=by
 obtain ⟨b,o,s⟩:=a
 simp only at h;subst h;rfl
theorem zda {α:Type} (P:Nat → α) {n i:Nat} {q:α} (h:((List.range n).map P)[i]? = some q):i < n ∧ q = P i:=by
 rw [List.getElem?_map] at h
 cases e:(List.range n)[i]? with
 | none=>rw [e] at h;cases h
 | some k =>
   rw [e] at h
   obtain ⟨h1,h2⟩:=List.getElem?_eq_some_iff.1 e
   simp at h1 h2 h
   subst h2
   exact ⟨h1,h.symm⟩
section
variable {H:Type} {enc:TypeId × Value → H} {w:World} {base:Nat} {spare:Nat → Bool} {held:Bool} {fuel:Nat} {cs:List Value} {x:DataW H × List MemPlace}
def zsn (cs:List Value):Prop:=∃ (id:ByteArray) (r c st:Int) (kd:ByteArray) (n:Int) (x y:Nat) (d:Bool),
 cs = [.string id,.int .i64 r,.int .i64 c,.int .i64 st,.string kd,.int .i64 n,.float .f64 x,.float .f64 y,.bool d] ∧ id.size ≤ maxLen ∧ kd.size ≤ maxLen ∧
 (Lit.int .i64 r).wf = true ∧ (Lit.int .i64 c).wf = true ∧ (Lit.int .i64 st).wf = true ∧ (Lit.int .i64 n).wf = true
theorem zt8 (h:DataW.trod enc Tryz.prog w base spare held fuel 115 cs = some x):zsn cs:=by
 obtain ⟨xs,n,hn,hx,hl,hxl,hf⟩:=DataW.trod_struct Tryz.underlying115 h
 have hl':cs.length = 9:=hl.trans (by kernel_rfl)
 have F:=fun i f hi=>zl3 (P:=Tryz.prog) (by kernel_rfl) (by rw [hl'];rfl) hxl hf i f hi
 match cs,hl' with
 | [c0,c1,c2,c3,c4,c5,c6,c7,c8],_ =>
   obtain ⟨_,_,e0,t0⟩:=F 0 _ rfl
   obtain ⟨_,_,e1,t1⟩:=F 1 _ rfl
   obtain ⟨_,_,e2,t2⟩:=F 2 _ rfl
   obtain ⟨_,_,e3,t3⟩:=F 3 _ rfl
   obtain ⟨_,_,e4,t4⟩:=F 4 _ rfl
   obtain ⟨_,_,e5,t5⟩:=F 5 _ rfl
   obtain ⟨_,_,e6,t6⟩:=F 6 _ rfl
   obtain ⟨_,_,e7,t7⟩:=F 7 _ rfl
   obtain ⟨_,_,e8,t8⟩:=F 8 _ rfl
   obtain ⟨s0,k0,_,z0⟩:=DataW.trod_string Tryz.underlying9 t0
   obtain ⟨s1,k1,_,z1⟩:=DataW.trod_int Tryz.underlying3 t1
   obtain ⟨s2,k2,_,z2⟩:=DataW.trod_int Tryz.underlying3 t2
   obtain ⟨s3,k3,_,z3⟩:=DataW.trod_int Tryz.underlying3 t3
   obtain ⟨s4,k4,_,z4⟩:=DataW.trod_string Tryz.underlying9 t4
   obtain ⟨s5,k5,_,z5⟩:=DataW.trod_int Tryz.underlying3 t5
   obtain ⟨s6,k6⟩:=zct Tryz.underlying22 t6
   obtain ⟨s7,k7⟩:=zct Tryz.underlying22 t7
   obtain ⟨s8,k8,_⟩:=DataW.trod_bool Tryz.underlying4 t8
   simp only [List.cons.injEq,and_true] at k0 k1 k2 k3 k4 k5 k6 k7 k8
   simp at e0 e1 e2 e3 e4 e5 e6 e7 e8
   subst e0 e1 e2 e3 e4 e5 e6 e7 e8 k0 k1 k2 k3 k4 k5 k6 k7 k8
   exact ⟨s0,s1,s2,s3,s4,s5,s6,s7,s8,rfl,z0,z4,z1,z2,z3,z5⟩
end
end Go.Proofs.YthnllikalobmeaaGreat
namespace Go.Proofs.YthnllikalobmeaaGreat
set_option linter.unusedVariables false
set_option linter.unusedSimpArgs false
set_option maxRecDepth 100000
set_option maxHeartbeats 8000000
open Go.RowKit
structure TxAt (w:World) (l:List ByteArray) (oa:Option Addr) (cap b o:Nat):Prop where
 len:l.length ≤ cap
 max:cap ≤ maxLen
 at0:0 < l.length → oa = some ⟨b,o,none⟩ ∧ b < w.heap.size
 cell:∀ k s,l[k]? = some s → w.cell? ⟨b,o + k,none⟩ = some (.string s)
 ok:∀ s ∈ l,s.size ≤ maxLen
def TxW (w:World) (l:List ByteArray) (v:Value):Prop:=∃ oa cap b o,v = .slice oa l.length cap ∧ TxAt w l oa cap b o
theorem posA {α:Type} {l:List α} {k:Nat} {a:α} (h:l[k]? = some a):k < l.length:=(List.getElem?_eq_some_iff.1 h).1
theorem TxAt.later {w w':World} {l:List ByteArray} {oa:Option Addr} {cap b o B:Nat} (h:TxAt w l oa cap b o) (hb:Below B w w') (hB:w.heap.size ≤ B):TxAt w' l oa cap b o:=by
 refine ⟨h.len,h.max,fun h0=>⟨(h.at0 h0).1,Nat.lt_of_lt_of_le (h.at0 h0).2 hb.size⟩,fun k s hk=>?_,h.ok⟩
 have hlt:b < w.heap.size:=(h.at0 (by have:=posA hk;omega)).2
 exact (hb.cell (p:=⟨b,o + k,none⟩) (by show b < B;omega)).trans (h.cell k s hk)
theorem TxW.later {w w':World} {l:List ByteArray} {v:Value} {B:Nat} (h:TxW w l v) (hb:Below B w w') (hB:w.heap.size ≤ B):TxW w' l v:=by
 obtain ⟨oa,cap,b,o,e,h⟩:=h
 exact ⟨oa,cap,b,o,e,h.later hb hB⟩
theorem TxW.val {w:World} {l:List ByteArray} {v:Value} (h:TxW w l v):∃ oa cap,v = .slice oa l.length cap:=by
 obtain ⟨oa,cap,_,_,e,_⟩:=h
 exact ⟨oa,cap,e⟩
theorem TxW.ok {w:World} {l:List ByteArray} {v:Value} (h:TxW w l v):∀ s ∈ l,s.size ≤ maxLen:=by
 obtain ⟨_,_,_,_,_,h⟩:=h
 exact h.ok
abbrev fc (f:Fr) (u:Value):List Value:=[u,.int .i64 (f.v 0),.int .i64 (f.v 1),.int .i64 (f.v 2),.int .i64 (f.v 3),.int .i64 (f.v 4),.int .i64 (f.v 5),.int .i64 (f.v 6),.int .i64 (f.v 7)]
structure FrAt (w:World) (l:List Fr) (U:Nat → Value) (oa:Option Addr) (cap b o:Nat):Prop where
 len:l.length ≤ cap
 max:cap ≤ maxLen
 at0:0 < l.length → oa = some ⟨b,o,none⟩ ∧ b < w.heap.size
 cell:∀ k f,l[k]? = some f → ∀ j u,(fc f (U k))[j]? = some u → w.cell? ⟨b,o + k * 9 + j,none⟩ = some u
 ids:∀ k f,l[k]? = some f → TxW w f.ids (U k)
def FrW (w:World) (l:List Fr) (v:Value):Prop:=∃ U oa cap b o,v = .slice oa l.length cap ∧ FrAt w l U oa cap b o
theorem FrAt.later {w w':World} {l:List Fr} {U:Nat → Value} {oa:Option Addr} {cap b o B:Nat} (h:FrAt w l U oa cap b o) (hb:Below B w w') (hB:w.heap.size ≤ B):FrAt w' l U oa cap b o:=by
 refine ⟨h.len,h.max,fun h0=>⟨(h.at0 h0).1,Nat.lt_of_lt_of_le (h.at0 h0).2 hb.size⟩,fun k f hk j u hu=>?_,fun k f hk=>(h.ids k f hk).later hb hB⟩
 have hlt:b < w.heap.size:=(h.at0 (by have:=posA hk;omega)).2
 exact (hb.cell (p:=⟨b,o + k * 9 + j,none⟩) (by show b < B;omega)).trans (h.cell k f hk j u hu)
theorem FrW.later {w w':World} {l:List Fr} {v:Value} {B:Nat} (h:FrW w l v) (hb:Below B w w') (hB:w.heap.size ≤ B):FrW w' l v:=by
 obtain ⟨U,oa,cap,b,o,e,h⟩:=h
 exact ⟨U,oa,cap,b,o,e,h.later hb hB⟩
theorem FrW.val {w:World} {l:List Fr} {v:Value} (h:FrW w l v):∃ oa cap,v = .slice oa l.length cap:=by
 obtain ⟨_,oa,cap,_,_,e,_⟩:=h
 exact ⟨oa,cap,e⟩
theorem zbm {w:World} {f:Fr} {u:Value} {b o:Nat} (h:∀ j z,(fc f u)[j]? = some z → w.cell? ⟨b,o + j,none⟩ = some z) :
   w.cell? ⟨b,o,none⟩ = some u ∧ w.cell? ⟨b,o + 1,none⟩ = some (.int .i64 (f.v 0)) ∧ w.cell? ⟨b,o + 2,none⟩ = some (.int .i64 (f.v 1)) ∧ w.cell? ⟨b,o + 3,none⟩ = some (.int .i64 (f.v 2)) ∧ w.cell? ⟨b,o + 4,none⟩ = some (.int .i64 (f.v 3)) ∧ w.cell? ⟨b,o + 5,none⟩ = some (.int .i64 (f.v 4)) ∧ w.cell? ⟨b,o + 6,none⟩ = some (.int .i64 (f.v 5)) ∧ w.cell? ⟨b,o + 7,none⟩ = some (.int .i64 (f.v 6)) ∧ w.cell? ⟨b,o + 8,none⟩ = some (.int .i64 (f.v 7)) :=
 ⟨h 0 _ rfl,h 1 _ rfl,h 2 _ rfl,h 3 _ rfl,h 4 _ rfl,h 5 _ rfl,h 6 _ rfl,h 7 _ rfl,h 8 _ rfl⟩
abbrev knV (A:Nat → Int) (v:Value):Value:=.agg #[.int .i64 (A 0),.int .i64 (A 1),.int .i64 (A 2),.int .i64 (A 3),.int .i64 (A 4),.int .i64 (A 5),.int .i64 (A 6),.int .i64 (A 7),v]
abbrev knA (A:Nat → Int) (v:Value):Array Value:=#[.int .i64 (A 0),.int .i64 (A 1),.int .i64 (A 2),.int .i64 (A 3),.int .i64 (A 4),.int .i64 (A 5),.int .i64 (A 6),.int .i64 (A 7),v]
def txC (l:List ByteArray):List Value:=l.map .string
def OwnT (w:World) (base:Nat) (l:List ByteArray) (v:Value):Prop:=w.ownsRow base 9 1 v l.length (txC l)
theorem OwnT.nil (w:World) (base:Nat):OwnT w base [] (.slice none 0 0):=World.ownsRow_nil _ _ _ _
theorem OwnT.later {w w':World} {base:Nat} {l:List ByteArray} {v:Value} (h:OwnT w base l v) (hb:Below w.heap.size w w'):OwnT w' base l v:=za8 h hb
theorem OwnT.alloc {w:World} {base:Nat} {l:List ByteArray} {v:Value} (h:OwnT w base l v) (o:Obj):OwnT (w.alloc o) base l v:=h.later ((Below.refl _ _).alloc (Nat.le_refl _) _)
theorem OwnT.mono {w:World} {base base':Nat} {l:List ByteArray} {v:Value} (h:OwnT w base l v) (hb:base' ≤ base):OwnT w base' l v:=by
 obtain ⟨h1,h2⟩:=h
 refine ⟨h1,?_⟩
 rcases h2 with h2 | ⟨g,cap,cur,hv,hg,r⟩
 · exact .inl h2
 · exact .inr ⟨g,cap,cur,hv,Nat.le_trans hb hg,r⟩
theorem OwnT.val {w:World} {base:Nat} {l:List ByteArray} {v:Value} (h:OwnT w base l v):∃ oa cap,v = .slice oa l.length cap:=by
 obtain ⟨oa,cap,g,e,_⟩:=zan h
 exact ⟨oa,cap,e⟩
theorem OwnT.tx {w:World} {base:Nat} {l:List ByteArray} {v:Value} (h:OwnT w base l v) (hok:∀ s ∈ l,s.size ≤ maxLen):TxW w l v:=by
 obtain ⟨oa,cap,g,e,h1,h2,hg⟩:=zan h
 subst e
 refine ⟨oa,cap,g,0,rfl,h1,h2,fun h0=>⟨(hg h0).1,(hg h0).2.2⟩,fun k s hk=>?_,hok⟩
 have hlt:=posA hk
 obtain ⟨rfl,_⟩:=hg (by omega)
 unfold OwnT at h
 rw [Nat.zero_add,h.cellAt k (by omega)]
 simp [txC,hk]
theorem zx3 {w:World} {s:ByteArray} {t:TypeId}:∀ j u,([.string s]:List Value)[j]? = some u → (w.alloc (.cells #[.string s] t)).cell? ((⟨w.heap.size,0,none⟩:Addr).add j) = some u :=
 World.news_of_block (cs:=#[.string s]) (t:=t) (fr:=(0,0)) (heap_alloc_new w _)
theorem oneT (s:ByteArray):∀ u ∈ ([.string s]:List Value),u.oneCell' = true:=by
 intro u hu;simp at hu;subst hu;rfl
theorem OwnT.push {w:World} {base n g cap:Nat} {l:List ByteArray} {s:ByteArray} (h:w.ownsRow base 9 1 (.slice (some ⟨g,0,none⟩) n cap) n (txC l ++ [.string s])) (hn:n = l.length + 1):OwnT w base (l ++ [s]) (.slice (some ⟨g,0,none⟩) n cap):=by
 unfold OwnT
 rw [List.length_append,txC,List.map_append]
 subst hn
 exact h
theorem zkl:(Tryz.prog.info? 9).map (fun i=>(i.zero,i.size,i.bytes)) = some (some (.string ⟨#[]⟩),1,16):=by kernel_rfl
theorem zc5:(Tryz.prog.info? 105).map (fun i=>(i.zero,i.size,i.bytes)) = some (some (.agg #[.slice none 0 0,.int .i64 0,.int .i64 0,.int .i64 0,.int .i64 0,.int .i64 0,.int .i64 0,.int .i64 0,.int .i64 0]),9,88):=by kernel_rfl
theorem ze7 {α:Type} {l:List α} {k:Nat} {i:α} (h:l[k]? = some i):l.take (k + 1) = l.take k ++ [i]:=by
 obtain ⟨hk,e⟩:=List.getElem?_eq_some_iff.1 h
 rw [List.take_succ_eq_append_getElem hk,e]
end Go.Proofs.YthnllikalobmeaaGreat
