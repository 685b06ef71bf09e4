/- Joined: ItemC, ItemD, KnowW, ItemE. -/
import Derived.Test.YtodfhabkdaiopaaGreatJ06
import Derived.Test.YtodfhabkdaiopaaGreatJ04
import Derived.Test.YtodfhabkdaiopaaGreatJ01
namespace Go.Proofs.YtodfhabkdaiopaaGreat
set_option linter.unusedVariables false
set_option linter.unusedSimpArgs false
set_option maxRecDepth 100000
set_option maxHeartbeats 8000000
open Go.RowKit
theorem y07h {p:Prop} (h:p):Go.RowKit.Hid p:=Lib.hid h
def mayI (id:ByteArray) (r c st:Int) (kd:ByteArray) (n:Int) (x y:Nat):Bool :=
 zbd id && (txtB kd && (verB r c && (inB st 1 1000000 && (inB n (-1000000) 1000000 && mayB x y))))
theorem znb (id:ByteArray) (r c st:Int) (kd:ByteArray) (n:Int) (x y:Nat) (d:Bool) (w:World) :
   Calls Tryz.prog 134 #[zex id r c st kd n x y d] w fun e w'=>e=.returned (.bool (mayI id r c st kd n x y))∧Below w.heap.size w w':=by
 have H1:=fun w=>y07h (zg3 id w)
 have H2:=fun w=>y07h (zlk kd w)
 have H3:=fun w=>y07h (znm r c w)
 have H4:=fun a b c w=>y07h (zir a b c w)
 have H6:=fun w=>y07h (zdj x y w)
 unfold mayI
 go_enter Tryz.func134,Tryz.ntmps134
 go_wp2_with (first | (go_at_call 151;refine ((H1 _).out).mono ?_;rintro e w' ⟨rfl,rfl⟩) | (go_at_call 187;refine ((H2 _).out).mono ?_;rintro e w' ⟨rfl,rfl⟩) | (go_at_call 188;refine ((H3 _).out).mono ?_;rintro e w' ⟨rfl,hb⟩;obtain ⟨hc,hf⟩:=zxw hb) | (go_at_call 189;refine ((H4 _ _ _ _).out).mono ?_;rintro e w' ⟨rfl,rfl⟩) | (go_at_call 190;refine ((H6 _).out).mono ?_;rintro e w' ⟨rfl,rfl⟩))
 all_goals
   go_ret
   refine ⟨zac (by simp_all),?_⟩
   first | exact (Below.refl _ _).alloc (Nat.le_refl _) _ | exact zai hb
theorem zo6 (id:ByteArray) (r c st:Int) (kd:ByteArray) (n:Int) (x y:Nat) (d:Bool) (w:World) (hi:id.size≤maxLen) (hk:kd.size≤maxLen) :
   Calls Tryz.prog 67 #[zex id r c st kd n x y d] w fun e w'=>e=.returned (.bool (mayI id r c st kd n x y))∧Below w.heap.size w w':=by
 have H1:=fun w=>y07h (zht id w hi)
 have H2:=fun w=>y07h (zhu kd w hk)
 have H3:=fun w=>y07h (zih r c w)
 have H6:=fun w=>y07h (zey x y w)
 clear hi hk
 unfold mayI inB
 go_enter Tryz.func67,Tryz.ntmps67
 go_wp2_with (first | (go_at_call 92;refine ((H1 _).out).mono ?_;rintro e w' ⟨rfl,rfl⟩) | (go_at_call 144;refine ((H2 _).out).mono ?_;rintro e w' ⟨rfl,rfl⟩) | (go_at_call 73;refine ((H3 _).out).mono ?_;rintro e w' ⟨rfl,hb⟩;obtain ⟨hc,hf⟩:=zxw hb) | (go_at_call 145;refine ((H6 _).out).mono ?_;rintro e w' ⟨rfl,rfl⟩))
 all_goals
   go_ret
   refine ⟨zac ?_,?_⟩
   · (try simp_all) <;> (try omega)
   · first | exact (Below.refl _ _).alloc (Nat.le_refl _) _ | exact zai hb
def cmpI (a b:Int):Int:=if a < b then -1 else if b < a then 1 else 0
def orI (a b:Int):Int:=if a=0 then b else a
def cmpV (st r c st' r' c':Int):Int:=orI (cmpI st st') (orI (cmpI r r') (cmpI c c'))
theorem zp1 (a:Int) (w:World) :
   Calls Tryz.prog 194 #[.int .i64 a] w fun e w'=>e=.returned (.bool false)∧w=w':=by
 go_enter Tryz.func194,Tryz.ntmps194
 go_wp2
 go_ret
 exact ⟨zac (by simp),rfl⟩
theorem zs5 (a b:Int) (w:World) :
   Calls Tryz.prog 138 #[.int .i64 a,.int .i64 b] w fun e w'=>e=.returned (.int .i64 (cmpI a b))∧w=w':=by
 have H:=fun a w=>y07h (zp1 a w)
 unfold cmpI
 by_cases h1:a < b <;> by_cases h2:b < a <;>
 first | (exfalso;omega) | (
   go_enter Tryz.func138,Tryz.ntmps138
   go_wp2_with (go_at_call 194;refine ((H _ _).out).mono ?_;rintro e w' ⟨rfl,rfl⟩)
   go_ret
   exact ⟨zcq (by simp [h1,h2]),rfl⟩ )
def zzt (a b c:Int) (i:Value):Prop:=i=.int .i64 0 ∨ (i=.int .i64 1∧a=0) ∨ (i=.int .i64 2∧a=0∧b=0) ∨ (i=.int .i64 3∧a=0∧b=0∧c=0)
theorem zwm (a b c:Int) (g:Nat) (w:World) (h0:w.cell? ⟨g,0,none⟩=some (.int .i64 a)) (h1:w.cell? ⟨g,1,none⟩=some (.int .i64 b)) (h2:w.cell? ⟨g,2,none⟩=some (.int .i64 c)) :
   Calls Tryz.prog 137 #[.slice (some ⟨g,0,none⟩) 3 3] w fun e w'=>e=.returned (.int .i64 (orI a (orI b c)))∧w=w':=by
 go_enter Tryz.func137,Tryz.ntmps137
 go_wp2
 go_loop [5,8] (fun _ i=>zzt a b c i) (fun _ i=>4 - (intOf i).toNat)
 case atStart=>exact .inl rfl
 case round =>
   rcases hrel with rfl | ⟨rfl,h⟩ | ⟨rfl,h,h'⟩ | ⟨rfl,h,h',h''⟩
   · by_cases ha:a=0
     · have e1:(a == 0)=true:=by simpa using ha
       have e2:(a != 0)=false:=by simpa using ha
       have E:=y07h ha
       clear ha
       go_wp2
       go_round
       case rel=>exact .inr (.inl ⟨by go_num,E.out⟩)
       case measure=>simp [intOf]
     · have e1:(a == 0)=false:=by simpa using ha
       have e2:(a != 0)=true:=by simpa using ha
       have E:=y07h ha
       clear ha
       go_wp2
       go_ret
       exact ⟨zcq (by unfold orI;rw [if_neg E.out]),rfl⟩
   · have H:=y07h h
     clear h
     by_cases ha:b=0
     · have e1:(b == 0)=true:=by simpa using ha
       have e2:(b != 0)=false:=by simpa using ha
       have E:=y07h ha
       clear ha
       go_wp2
       go_round
       case rel=>exact .inr (.inr (.inl ⟨by go_num,H.out,E.out⟩))
       case measure=>simp [intOf]
     · have e1:(b == 0)=false:=by simpa using ha
       have e2:(b != 0)=true:=by simpa using ha
       have E:=y07h ha
       clear ha
       go_wp2
       go_ret
       exact ⟨zcq (by unfold orI;rw [if_pos H.out,if_neg E.out]),rfl⟩
   · have H:=y07h h
     have H':=y07h h'
     clear h h'
     by_cases ha:c=0
     · have e1:(c == 0)=true:=by simpa using ha
       have e2:(c != 0)=false:=by simpa using ha
       have E:=y07h ha
       clear ha
       go_wp2
       go_round
       case rel=>exact .inr (.inr (.inr ⟨by go_num,H.out,H'.out,E.out⟩))
       case measure=>simp [intOf]
     · have e1:(c == 0)=false:=by simpa using ha
       have e2:(c != 0)=true:=by simpa using ha
       clear ha
       go_wp2
       go_ret
       exact ⟨zcq (by unfold orI;rw [if_pos H.out,if_pos H'.out]),rfl⟩
   · have H:=y07h h
     have H':=y07h h'
     have H'':=y07h h''
     clear h h' h''
     go_wp2
     go_ret
     exact ⟨zcq (by unfold orI;rw [if_pos H.out,if_pos H'.out,H''.out]),rfl⟩
theorem zm5 (id:ByteArray) (r c st:Int) (kd:ByteArray) (n:Int) (x y:Nat) (d:Bool) (id':ByteArray) (r' c' st':Int) (kd':ByteArray) (n':Int) (x' y':Nat) (d':Bool) (w:World) :
   Calls Tryz.prog 62 #[zex id r c st kd n x y d,zex id' r' c' st' kd' n' x' y' d'] w fun e w'=>e=.returned (.int .i64 (cmpV st r c st' r' c'))∧Below w.heap.size w w':=by
 have H:=fun a b w=>y07h (zs5 a b w)
 have O:=fun a b c g w h0 h1 h2=>y07h (zwm a b c g w h0 h1 h2)
 go_enter Tryz.func62,Tryz.ntmps62
 go_wp2
 refine za2 19 (by kernel_rfl) (by kernel_rfl) ?_
 simp only [List.take_succ_cons,List.take_zero,List.drop_succ_cons,List.drop_zero]
 repeat (first | still_step | (refine wpStill_step (fun K hK=>?_);go_simp;refine ⟨_,zd5 (H _ _ _).out,hK _ ?_⟩;clear hK K))
 refine wpStill_nil ?_
 go_wp2_with fail
 refine (O (cmpI st st') (cmpI r r') (cmpI c c') _ _ ?_ ?_ ?_).out.mono ?_
 rotate_left 3
 · rintro e w' ⟨rfl,rfl⟩
   go_wp2
   go_ret
   exact ⟨rfl,((((Below.refl _ _).alloc (Nat.le_refl _) _).alloc (by simp) _).alloc (by simp;omega) _).drew⟩
 all_goals go_simp
theorem zns (id:ByteArray) (r c st:Int) (kd:ByteArray) (n:Int) (x y:Nat) (d:Bool) (id':ByteArray) (r' c' st':Int) (kd':ByteArray) (n':Int) (x' y':Nat) (d':Bool) (w:World) :
   Calls Tryz.prog 69 #[zex id r c st kd n x y d,zex id' r' c' st' kd' n' x' y' d'] w fun e w'=>e=.returned (.bool (decide (cmpV st r c st' r' c'=1)))∧Below w.heap.size w w':=by
 by_cases h1:st=st'
 · subst h1
   by_cases h2:r=r'
   · subst h2
     have e:cmpV st r c st r c'=cmpI c c':=by simp [cmpV,orI,cmpI]
     rw [e]
     clear e
     unfold cmpI
     by_cases h3:c' < c
     · have e:(if c < c' then (-1:Int) else if c' < c then 1 else 0)=1:=by rw [if_neg (by omega),if_pos h3]
       rw [e];clear e
       go_enter Tryz.func69,Tryz.ntmps69
       go_wp2
       go_ret
       exact ⟨by simp,(((Below.refl _ _).alloc (Nat.le_refl _) _).alloc (by simp) _)⟩
     · have e:decide ((if c < c' then (-1:Int) else if c' < c then 1 else 0)=1)=false:=by rw [if_neg h3];split <;> simp
       rw [e];clear e
       go_enter Tryz.func69,Tryz.ntmps69
       go_wp2
       go_ret
       exact ⟨by simp,(((Below.refl _ _).alloc (Nat.le_refl _) _).alloc (by simp) _)⟩
   · have e1:(r == r')=false:=by simpa using h2
     have e2:(r != r')=true:=by simpa using h2
     have e:decide (cmpV st r c st r' c'=1)=decide (r' < r):=by
       rw [decide_eq_decide]
       simp only [cmpV,orI,cmpI]
       split <;> split <;> (try split) <;> simp_all <;> omega
     rw [e]
     clear e h2
     go_enter Tryz.func69,Tryz.ntmps69
     go_wp2
     go_ret
     exact ⟨by simp,(((Below.refl _ _).alloc (Nat.le_refl _) _).alloc (by simp) _)⟩
 · have e1:(st == st')=false:=by simpa using h1
   have e2:(st != st')=true:=by simpa using h1
   have e:decide (cmpV st r c st' r' c'=1)=decide (st' < st):=by
     rw [decide_eq_decide]
     simp only [cmpV,orI,cmpI]
     split <;> (try split) <;> simp_all <;> omega
   rw [e]
   clear e h1
   go_enter Tryz.func69,Tryz.ntmps69
   go_wp2
   go_ret
   exact ⟨by simp,(((Below.refl _ _).alloc (Nat.le_refl _) _).alloc (by simp) _)⟩
structure TxAt (w:World) (l:List ByteArray) (oa:Option Addr) (cap b o:Nat):Prop where
 len:l.length≤cap
 max:cap≤maxLen
 at0:0 < l.length→oa=some ⟨b,o,none⟩∧b < w.heap.size
 cell:∀ k s,l[k]?=some s→w.cell? ⟨b,o + k,none⟩=some (.string s)
 ok:∀ s∈l,s.size≤maxLen
def TxW (w:World) (l:List ByteArray) (v:Value):Prop:=∃ oa cap b o,v=.slice oa l.length cap∧TxAt w l oa cap b o
theorem posA {α:Type} {l:List α} {k:Nat} {a:α} (h:l[k]?=some a):k < l.length:=(List.getElem?_eq_some_iff.1 h).1
theorem TxAt.later {w w':World} {l:List ByteArray} {oa:Option Addr} {cap b o B:Nat} (h:TxAt w l oa cap b o) (hb:Below B w w') (hB:w.heap.size≤B):TxAt w' l oa cap b o:=by
 refine ⟨h.len,h.max,fun h0=>⟨(h.at0 h0).1,Nat.lt_of_lt_of_le (h.at0 h0).2 hb.size⟩,fun k s hk=>?_,h.ok⟩
 have hlt:b < w.heap.size:=(h.at0 (by have:=posA hk;omega)).2
 exact (hb.cell (p:=⟨b,o + k,none⟩) (by show b < B;omega)).trans (h.cell k s hk)
theorem TxW.later {w w':World} {l:List ByteArray} {v:Value} {B:Nat} (h:TxW w l v) (hb:Below B w w') (hB:w.heap.size≤B):TxW w' l v:=by
 obtain ⟨oa,cap,b,o,e,h⟩:=h
 exact ⟨oa,cap,b,o,e,h.later hb hB⟩
theorem TxW.val {w:World} {l:List ByteArray} {v:Value} (h:TxW w l v):∃ oa cap,v=.slice oa l.length cap:=by
 obtain ⟨oa,cap,_,_,e,_⟩:=h
 exact ⟨oa,cap,e⟩
theorem TxW.ok {w:World} {l:List ByteArray} {v:Value} (h:TxW w l v):∀ s∈l,s.size≤maxLen:=by
 obtain ⟨_,_,_,_,_,h⟩:=h
 exact h.ok
abbrev fc (f:Fr) (u:Value):List Value:=[u,.int .i64 (f.v 0),.int .i64 (f.v 1),.int .i64 (f.v 2),.int .i64 (f.v 3),.int .i64 (f.v 4),.int .i64 (f.v 5),.int .i64 (f.v 6),.int .i64 (f.v 7)]
structure FrAt (w:World) (l:List Fr) (U:Nat→Value) (oa:Option Addr) (cap b o:Nat):Prop where
 len:l.length≤cap
 max:cap≤maxLen
 at0:0 < l.length→oa=some ⟨b,o,none⟩∧b < w.heap.size
 cell:∀ k f,l[k]?=some f→∀ j u,(fc f (U k))[j]?=some u→w.cell? ⟨b,o + k * 9 + j,none⟩=some u
 ids:∀ k f,l[k]?=some f→TxW w f.ids (U k)
def FrW (w:World) (l:List Fr) (v:Value):Prop:=∃ U oa cap b o,v=.slice oa l.length cap∧FrAt w l U oa cap b o
theorem FrAt.later {w w':World} {l:List Fr} {U:Nat→Value} {oa:Option Addr} {cap b o B:Nat} (h:FrAt w l U oa cap b o) (hb:Below B w w') (hB:w.heap.size≤B):FrAt w' l U oa cap b o:=by
 refine ⟨h.len,h.max,fun h0=>⟨(h.at0 h0).1,Nat.lt_of_lt_of_le (h.at0 h0).2 hb.size⟩,fun k f hk j u hu=>?_,fun k f hk=>(h.ids k f hk).later hb hB⟩
 have hlt:b < w.heap.size:=(h.at0 (by have:=posA hk;omega)).2
 exact (hb.cell (p:=⟨b,o + k * 9 + j,none⟩) (by show b < B;omega)).trans (h.cell k f hk j u hu)
theorem FrW.later {w w':World} {l:List Fr} {v:Value} {B:Nat} (h:FrW w l v) (hb:Below B w w') (hB:w.heap.size≤B):FrW w' l v:=by
 obtain ⟨U,oa,cap,b,o,e,h⟩:=h
 exact ⟨U,oa,cap,b,o,e,h.later hb hB⟩
theorem FrW.val {w:World} {l:List Fr} {v:Value} (h:FrW w l v):∃ oa cap,v=.slice oa l.length cap:=by
 obtain ⟨_,oa,cap,_,_,e,_⟩:=h
 exact ⟨oa,cap,e⟩
theorem zb6 {w:World} {f:Fr} {u:Value} {b o:Nat} (h:∀ j z,(fc f u)[j]?=some z→w.cell? ⟨b,o + j,none⟩=some z) :
   w.cell? ⟨b,o,none⟩=some u∧w.cell? ⟨b,o + 1,none⟩=some (.int .i64 (f.v 0))∧w.cell? ⟨b,o + 2,none⟩=some (.int .i64 (f.v 1))∧w.cell? ⟨b,o + 3,none⟩=some (.int .i64 (f.v 2))∧w.cell? ⟨b,o + 4,none⟩=some (.int .i64 (f.v 3))∧w.cell? ⟨b,o + 5,none⟩=some (.int .i64 (f.v 4))∧w.cell? ⟨b,o + 6,none⟩=some (.int .i64 (f.v 5))∧w.cell? ⟨b,o + 7,none⟩=some (.int .i64 (f.v 6))∧w.cell? ⟨b,o + 8,none⟩=some (.int .i64 (f.v 7)) :=
 ⟨h 0 _ rfl,h 1 _ rfl,h 2 _ rfl,h 3 _ rfl,h 4 _ rfl,h 5 _ rfl,h 6 _ rfl,h 7 _ rfl,h 8 _ rfl⟩
abbrev knV (A:Nat→Int) (v:Value):Value:=.agg #[.int .i64 (A 0),.int .i64 (A 1),.int .i64 (A 2),.int .i64 (A 3),.int .i64 (A 4),.int .i64 (A 5),.int .i64 (A 6),.int .i64 (A 7),v]
abbrev knA (A:Nat→Int) (v:Value):Array Value:=#[.int .i64 (A 0),.int .i64 (A 1),.int .i64 (A 2),.int .i64 (A 3),.int .i64 (A 4),.int .i64 (A 5),.int .i64 (A 6),.int .i64 (A 7),v]
def txC (l:List ByteArray):List Value:=l.map .string
def OwnT (w:World) (base:Nat) (l:List ByteArray) (v:Value):Prop:=w.ownsRow base 9 1 v l.length (txC l)
theorem OwnT.nil (w:World) (base:Nat):OwnT w base [] (.slice none 0 0):=World.ownsRow_nil _ _ _ _
theorem OwnT.later {w w':World} {base:Nat} {l:List ByteArray} {v:Value} (h:OwnT w base l v) (hb:Below w.heap.size w w'):OwnT w' base l v:=zau h hb
theorem OwnT.alloc {w:World} {base:Nat} {l:List ByteArray} {v:Value} (h:OwnT w base l v) (o:Obj):OwnT (w.alloc o) base l v:=h.later ((Below.refl _ _).alloc (Nat.le_refl _) _)
theorem OwnT.mono {w:World} {base base':Nat} {l:List ByteArray} {v:Value} (h:OwnT w base l v) (hb:base'≤base):OwnT w base' l v:=by
 obtain ⟨h1,h2⟩:=h
 refine ⟨h1,?_⟩
 rcases h2 with h2 | ⟨g,cap,cur,hv,hg,r⟩
 · exact .inl h2
 · exact .inr ⟨g,cap,cur,hv,Nat.le_trans hb hg,r⟩
theorem OwnT.val {w:World} {base:Nat} {l:List ByteArray} {v:Value} (h:OwnT w base l v):∃ oa cap,v=.slice oa l.length cap:=by
 obtain ⟨oa,cap,g,e,_⟩:=zaq h
 exact ⟨oa,cap,e⟩
theorem OwnT.tx {w:World} {base:Nat} {l:List ByteArray} {v:Value} (h:OwnT w base l v) (hok:∀ s∈l,s.size≤maxLen):TxW w l v:=by
 obtain ⟨oa,cap,g,e,h1,h2,hg⟩:=zaq h
 subst e
 refine ⟨oa,cap,g,0,rfl,h1,h2,fun h0=>⟨(hg h0).1,(hg h0).2.2⟩,fun k s hk=>?_,hok⟩
 have hlt:=posA hk
 obtain ⟨rfl,_⟩:=hg (by omega)
 unfold OwnT at h
 rw [Nat.zero_add,h.cellAt k (by omega)]
 simp [txC,hk]
theorem zfe {w:World} {s:ByteArray} {t:TypeId}:∀ j u,([.string s]:List Value)[j]?=some u→(w.alloc (.cells #[.string s] t)).cell? ((⟨w.heap.size,0,none⟩:Addr).add j)=some u :=
 World.news_of_block (cs:=#[.string s]) (t:=t) (fr:=(0,0)) (heap_alloc_new w _)
theorem oneT (s:ByteArray):∀ u∈([.string s]:List Value),u.oneCell'=true:=by
 intro u hu;simp at hu;subst hu;rfl
theorem OwnT.push {w:World} {base n g cap:Nat} {l:List ByteArray} {s:ByteArray} (h:w.ownsRow base 9 1 (.slice (some ⟨g,0,none⟩) n cap) n (txC l ++ [.string s])) (hn:n=l.length + 1):OwnT w base (l ++ [s]) (.slice (some ⟨g,0,none⟩) n cap):=by
 unfold OwnT
 rw [List.length_append,txC,List.map_append]
 subst hn
 exact h
theorem zcy {w0 w w':World} {B base:Nat} {l:List ByteArray} {v:Value} (h:OwnT w base l v) (hb:Below B w0 w) (hB:B≤base) (hg:w.grownBy w' v.ownBlock) (hsz:B≤w.heap.size):Below B w0 w' :=
 hb.grown hg hsz fun k hk=>by have:=(World.ownsRow.lt h k hk).1;omega
theorem zfy:(Tryz.prog.info? 9).map (fun i=>(i.zero,i.size,i.bytes))=some (some (.string ⟨#[]⟩),1,16):=by kernel_rfl
theorem zc5:(Tryz.prog.info? 162).map (fun i=>(i.zero,i.size,i.bytes))=some (some (.agg #[.slice none 0 0,.int .i64 0,.int .i64 0,.int .i64 0,.int .i64 0,.int .i64 0,.int .i64 0,.int .i64 0,.int .i64 0]),9,88):=by kernel_rfl
theorem zej {α:Type} {l:List α} {k:Nat} {i:α} (h:l[k]?=some i):l.take (k + 1)=l.take k ++ [i]:=by
 obtain ⟨hk,e⟩:=List.getElem?_eq_some_iff.1 h
 rw [List.take_succ_eq_append_getElem hk,e]
def zno (id:ByteArray) (r c st:Int) (kd:ByteArray) (n:Int) (x y:Nat) (d:Bool) (id':ByteArray) (r' c' st':Int) (kd':ByteArray) (n':Int) (x' y':Nat) (d':Bool):Bool :=
 decide (id.toList=id'.toList) && (decide (r=r') && (decide (c=c') && (decide (st=st') && (decide (kd.toList=kd'.toList) && (decide (n=n') && (decide (d=d') && (feq x x' && feq y y')))))))
theorem zni (id:ByteArray) (r c st:Int) (kd:ByteArray) (n:Int) (x y:Nat) (d:Bool) (id':ByteArray) (r' c' st':Int) (kd':ByteArray) (n':Int) (x' y':Nat) (d':Bool) (w:World) :
   Calls Tryz.prog 154 #[zex id r c st kd n x y d,zex id' r' c' st' kd' n' x' y' d'] w fun e w'=>e=.returned (.bool (zno id r c st kd n x y d id' r' c' st' kd' n' x' y' d'))∧Below w.heap.size w w':=by
 have f1:∀ x y,(FloatKind.f64.format.order x y == some .eq)=feq x y:=fun _ _=>rfl
 go_enter Tryz.func154,Tryz.ntmps154
 go_wp2
 all_goals
   go_ret
   exact ⟨zac (by simp_all [zno]),((Below.refl _ _).alloc (Nat.le_refl _) _).alloc (by simp) _⟩
theorem zvm (a b c a' b' c':Int):cmpV a b c a' b' c'=1 ∨ cmpV a b c a' b' c'=0 ∨ cmpV a b c a' b' c'=-1:=by
 unfold cmpV orI cmpI
 split <;> split <;> (try split) <;> (try split) <;> (try split) <;> omega
end Go.Proofs.YtodfhabkdaiopaaGreat
