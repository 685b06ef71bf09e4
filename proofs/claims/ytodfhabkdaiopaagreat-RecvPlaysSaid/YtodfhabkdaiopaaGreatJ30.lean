/- Joined: KCodeA, LocA, KCodeB, LocM1. -/
import Derived.Test.YtodfhabkdaiopaaGreatJ29
import Derived.Test.YtodfhabkdaiopaaGreatJ03
import Derived.Test.YtodfhabkdaiopaaGreatJ23
import Derived.Test.YtodfhabkdaiopaaGreatJ21
import Derived.Lib.SliceRun
import Derived.Test.YtodfhabkdaiopaaGreatJ22
import Derived.Test.YtodfhabkdaiopaaGreatJ24
import Derived.Test.YtodfhabkdaiopaaGreatJ12
import Derived.Deep.RegionHeld3
import Derived.Lib.QuietBelow
import Derived.BigQuiet
namespace Go.Proofs.YtodfhabkdaiopaaGreat
set_option linter.unusedVariables false
set_option linter.unusedSimpArgs false
set_option maxRecDepth 100000
set_option maxHeartbeats 8000000
open Go.RowKit
theorem y30h {p:Prop} (h:p):Go.RowKit.Hid p:=Lib.hid h
theorem zhm (K:Kn) (id:ByteArray) (r c:Int) (v:Value) (w:World) (hR:FrW w K.l v) (hid:id.size≤maxLen) :
   Calls Tryz.prog 52 #[knV K.star v,.string id,.agg #[.int .i64 r,.int .i64 c]] w fun e w'=>e=.returned (.bool (hasK K id r c))∧Below w.heap.size w w':=by
 obtain ⟨ov,cv,rfl⟩:=hR.val
 unfold hasK
 obtain ⟨A,l⟩:=K
 simp only at *
 have G1:=y30h (((Own.new w (knA A (.slice ov l.length cv)) 38).alloc (.cells #[.string id] 9)).alloc (.cells #[.int .i64 r,.int .i64 c] 52))
 have G2:=y30h ((Own.newAt (w.alloc (.cells (knA A (.slice ov l.length cv)) 38)) #[.string id] 9 (b:=w.heap.size + 1) (by simp)).alloc (.cells #[.int .i64 r,.int .i64 c] 52))
 have G3:=y30h (Own.newAt ((w.alloc (.cells (knA A (.slice ov l.length cv)) 38)).alloc (.cells #[.string id] 9)) #[.int .i64 r,.int .i64 c] 52 (b:=w.heap.size + 1 + 1) (by simp))
 have HB0:=y30h ((((Below.refl w.heap.size w).alloc (Nat.le_refl _) (.cells (knA A (.slice ov l.length cv)) 38)).alloc (by simp) (.cells #[.string id] 9)).alloc (by simp;omega) (.cells #[.int .i64 r,.int .i64 c] 52))
 have HR:=y30h (hR.later HB0.out (Nat.le_refl _))
 have CH:=fun w'=>y30h (zip A r c w')
 clear hR
 cases hh:hasV A r c
 · have CD:=fun w' h=>y30h (zkk (zdb id r c) l (.slice ov l.length cv) (w.heap.size + 1 + 1) (w.heap.size + 1) w' h)
   rw [Bool.false_or]
   go_enter Tryz.func52,Tryz.ntmps52
   go_upto_region 1 with fail
   generalize ((w.alloc (.cells (knA A (.slice ov l.length cv)) 38)).alloc (.cells #[.string id] 9)).alloc (.cells #[.int .i64 r,.int .i64 c] 52)=W at *
   have l1:=G1.out.cell
   have z1:=G1.out.lt
   have l3:=G3.out.cell
   have z3:=G3.out.lt
   have CH1:=CH W
   rw [hh] at CH1
   go_wp2_with (first
     | (go_at_call 123;refine CH1.out.mono ?_;rintro e w3 ⟨rfl,hb3⟩;have l13:=(G1.out.later hb3).cell;have z13:=(G1.out.later hb3).lt;have D:=y30h ((CD w3 (HR.out.later hb3 (Nat.le_refl _))).out fun w' hb' k f u hf hu=>zrt f u r c id _ _ w' hu ((G3.out.later hb3).later hb') ((G2.out.later hb3).later hb')))
     | (go_at_call 124;refine D.out.mono ?_;rintro e w4 ⟨rfl,hb4⟩)
     | fail)
   go_ret
   exact ⟨rfl,HB0.out.trans ((hb3.trans (hb4.mono hb3.size)).mono HB0.out.size)⟩
 · rw [Bool.true_or]
   go_enter Tryz.func52,Tryz.ntmps52
   go_upto_region 1 with fail
   generalize ((w.alloc (.cells (knA A (.slice ov l.length cv)) 38)).alloc (.cells #[.string id] 9)).alloc (.cells #[.int .i64 r,.int .i64 c] 52)=W at *
   have l1:=G1.out.cell
   have z1:=G1.out.lt
   have l3:=G3.out.cell
   have z3:=G3.out.lt
   have CH1:=CH W
   rw [hh] at CH1
   go_wp2_with (go_at_call 123;refine CH1.out.mono ?_;rintro e w3 ⟨rfl,hb3⟩)
   go_ret
   exact ⟨rfl,HB0.out.trans (hb3.mono HB0.out.size)⟩
theorem zc4 (t ty e:TypeId) (i:TypeInfo) (z:Value) (size bytes:Nat) (ht:Tryz.prog.underlying t=some (.slice e)) (hi:Tryz.prog.info? e=some i) (hz:i.zero=some z)
   (hsize:i.size=size) (hby:i.bytes=bytes) (hzs:z.cells.size=size) (hsz:0 < size) {w:World} {base:Nat} {v:Value} {n:Nat} {xs:List Value} (hown:w.ownsRow base e size v n xs)
   (oa:Option Addr) (m c:Nat) (news:List Value) (hl:news.length=m * size) (hnews:0 < m→∃ b o,oa=some ⟨b,o,none⟩∧∀ j u,news[j]?=some u→w.cell? ⟨b,o + j,none⟩=some u) (h1:∀ u∈news,u.oneCell'=true)
   (h63:n + m≤30000) (hb:bytes≤1000) (hbase:base≤w.heap.size) :
   ∃ v' w',(Builtin.append_ #[t,t] ty #[v,.slice oa m c]).run Tryz.prog w=.ok v' w'∧w'.ownsRow base e size v' (n + m) (xs ++ news)∧w.grownBy w' v.ownBlock:=by
 by_cases h0:m=0
 · subst h0
   obtain ⟨ov,cv,gv,e',h1',_⟩:=zaq hown
   subst e'
   have hf:(Builtin.firstCells i.size 0 (.slice oa 0 c)).run Tryz.prog w=.ok #[] w:=by
     cases oa with
     | none=>exact run_firstCells_none w _ _ _ _
     | some a=>exact run_firstCells_some w i.size 0 a 0 c [] (by simp) (fun j v h=>by simp at h)
   have hn:news=[]:=List.length_eq_zero_iff.1 (by omega)
   subst hn
   have hr:(Builtin.append_ #[t,t] ty #[.slice ov n cv,.slice oa 0 c]).run Tryz.prog w=.ok (.slice ov n cv) w:=by
     cases ov with
     | none=>simp [Builtin.append_,run_underlying ht,sizeOf,typeInfo,hi,Builtin.lenOf,h1',hf,Result.andThen]
     | some a=>simp [Builtin.append_,run_underlying ht,sizeOf,typeInfo,hi,Builtin.lenOf,h1',hf,zmz,Result.andThen]
   exact ⟨_,w,hr,by simpa using hown,⟨rfl,rfl,rfl,Nat.le_refl _,fun _ _ _=>rfl⟩⟩
 · obtain ⟨b,o,rfl,hn⟩:=hnews (by omega)
   obtain ⟨v',w',r1,r2,r3,_⟩:=run_append_own w base t ty e i z size bytes ht hi hz hsize hby hzs hsz v n xs hown ⟨b,o,none⟩ m c news hl (fun j u hu=>by rw [zfj];exact hn j u hu) h1 (by unfold maxLen;omega) (Nat.le_trans (Nat.mul_le_mul h63 hb) (by decide)) hbase
   exact ⟨v',w',r1,r2,r3⟩
theorem zf2 (w:World) (e:TypeId) (size:Nat):(w.alloc (.cells #[] e)).ownsRow w.heap.size e size (.slice (some ⟨w.heap.size,0,none⟩) 0 0) 0 [] :=
 ⟨by simp,.inr ⟨w.heap.size,0,#[],rfl,Nat.le_refl _,heap_alloc_new w _,Nat.le_refl _,Nat.zero_le _,by simp,by simp⟩⟩
theorem z0l:(Tryz.prog.info? 32).map (fun i=>(i.zero,i.size,i.bytes))=some (some (.agg #[.int .i64 0,.string ⟨#[]⟩,.int .i64 0,.complex .f64 0 0,.slice none 0 0]),5,72):=by kernel_rfl
theorem zps (oa:Option Addr) (m c:Nat) (news:List Value) (w:World) (hl:news.length=m * 8) (hnews:0 < m→∃ b o,oa=some ⟨b,o,none⟩∧b < w.heap.size∧∀ j u,news[j]?=some u→w.cell? ⟨b,o + j,none⟩=some u) (h1:∀ u∈news,u.oneCell'=true) (hm:m≤30000) (hc:c≤maxLen) :
   Calls Tryz.prog 133 #[.slice oa m c] w fun e w'=>∃ v',e=.returned v'∧w'.ownsRow w.heap.size 58 8 v' m news∧Below w.heap.size w w':=by
 obtain ⟨j0,hj,hy0,hy1,hy2⟩:=info_parts zct
 cases oa with
 | none =>
   have hm0:m=0:=by
     rcases Nat.eq_zero_or_pos m with h | h
     · exact h
     · obtain ⟨_,_,h2,_⟩:=hnews h;cases h2
   subst hm0
   have hn:news=[]:=List.length_eq_zero_iff.1 (by omega)
   subst hn
   clear hnews h1 hl
   have qT:∀ w:World,(binOp .eql 33 (.slice none 0 c) (.slice none 0 0)).run Tryz.prog w=.ok (.bool true) w:=fun w=>Lib.run_eql_slice_nil w _ _ none 0 c 0 0 Tryz.underlying33
   go_enter Tryz.func133,Tryz.ntmps133
   go_wp2_with fail
   go_ret
   exact ⟨_,rfl,World.ownsRow_nil _ _ _ _,Below.refl _ _⟩
 | some a =>
   have B0:Below w.heap.size w (w.alloc (.cells #[] 58)):=(Below.refl _ _).alloc (Nat.le_refl _) _
   have HA:=y30h (fun ty=>zc4 33 ty 58 j0 _ 8 88 Tryz.underlying33 hj hy0 hy1 hy2 rfl (by omega) (zf2 w 58 8) (some a) m c news hl (fun h=>by
     obtain ⟨b,o,e,hb,hn⟩:=hnews h
     exact ⟨b,o,e,fun j u hu=>(B0.cell (p:=⟨b,o + j,none⟩) hb).trans (hn j u hu)⟩) h1 (by omega) (by omega) B0.size)
   have HB0:=y30h B0
   clear hnews h1 hl B0 hj hy0 hy1 hy2
   have qT:∀ w:World,(binOp .eql 33 (.slice (some a) m c) (.slice none 0 0)).run Tryz.prog w=.ok (.bool false) w:=fun w=>Lib.run_eql_slice_nil w _ _ (some a) m c 0 0 Tryz.underlying33
   go_enter Tryz.func133,Tryz.ntmps133
   go_wp2_with (at_builtin;obtain ⟨v',w',hrun,hown,hgr⟩:=HA.out _;refine Lib.wpList_append_run _ rfl _ _ _ _ rfl _ _ rfl rfl _ _ hrun ?_)
   go_ret
   exact ⟨_,rfl,by simpa using hown,HB0.out.grown hgr HB0.out.size (fun k hk=>by simp [Value.ownBlock] at hk;omega)⟩
theorem zpr (oa:Option Addr) (m c:Nat) (news:List Value) (w:World) (hl:news.length=m * 9) (hnews:0 < m→∃ b o,oa=some ⟨b,o,none⟩∧b < w.heap.size∧∀ j u,news[j]?=some u→w.cell? ⟨b,o + j,none⟩=some u) (h1:∀ u∈news,u.oneCell'=true) (hm:m≤30000) (hc:c≤maxLen) :
   Calls Tryz.prog 175 #[.slice oa m c] w fun e w'=>∃ v',e=.returned v'∧w'.ownsRow w.heap.size 162 9 v' m news∧Below w.heap.size w w':=by
 obtain ⟨j0,hj,hy0,hy1,hy2⟩:=info_parts zc5
 cases oa with
 | none =>
   have hm0:m=0:=by
     rcases Nat.eq_zero_or_pos m with h | h
     · exact h
     · obtain ⟨_,_,h2,_⟩:=hnews h;cases h2
   subst hm0
   have hn:news=[]:=List.length_eq_zero_iff.1 (by omega)
   subst hn
   clear hnews h1 hl
   have qT:∀ w:World,(binOp .eql 36 (.slice none 0 c) (.slice none 0 0)).run Tryz.prog w=.ok (.bool true) w:=fun w=>Lib.run_eql_slice_nil w _ _ none 0 c 0 0 Tryz.underlying36
   go_enter Tryz.func175,Tryz.ntmps175
   go_wp2_with fail
   go_ret
   exact ⟨_,rfl,World.ownsRow_nil _ _ _ _,Below.refl _ _⟩
 | some a =>
   have B0:Below w.heap.size w (w.alloc (.cells #[] 162)):=(Below.refl _ _).alloc (Nat.le_refl _) _
   have HA:=y30h (fun ty=>zc4 36 ty 162 j0 _ 9 88 Tryz.underlying36 hj hy0 hy1 hy2 rfl (by omega) (zf2 w 162 9) (some a) m c news hl (fun h=>by
     obtain ⟨b,o,e,hb,hn⟩:=hnews h
     exact ⟨b,o,e,fun j u hu=>(B0.cell (p:=⟨b,o + j,none⟩) hb).trans (hn j u hu)⟩) h1 (by omega) (by omega) B0.size)
   have HB0:=y30h B0
   clear hnews h1 hl B0 hj hy0 hy1 hy2
   have qT:∀ w:World,(binOp .eql 36 (.slice (some a) m c) (.slice none 0 0)).run Tryz.prog w=.ok (.bool false) w:=fun w=>Lib.run_eql_slice_nil w _ _ (some a) m c 0 0 Tryz.underlying36
   go_enter Tryz.func175,Tryz.ntmps175
   go_wp2_with (at_builtin;obtain ⟨v',w',hrun,hown,hgr⟩:=HA.out _;refine Lib.wpList_append_run _ rfl _ _ _ _ rfl _ _ rfl rfl _ _ hrun ?_)
   go_ret
   exact ⟨_,rfl,by simpa using hown,HB0.out.grown hgr HB0.out.size (fun k hk=>by simp [Value.ownBlock] at hk;omega)⟩
theorem zpu (oa:Option Addr) (m c:Nat) (news:List Value) (w:World) (hl:news.length=m * 1) (hnews:0 < m→∃ b o,oa=some ⟨b,o,none⟩∧b < w.heap.size∧∀ j u,news[j]?=some u→w.cell? ⟨b,o + j,none⟩=some u) (h1:∀ u∈news,u.oneCell'=true) (hm:m≤30000) (hc:c≤maxLen) :
   Calls Tryz.prog 176 #[.slice oa m c] w fun e w'=>∃ v',e=.returned v'∧w'.ownsRow w.heap.size 9 1 v' m news∧Below w.heap.size w w':=by
 obtain ⟨j0,hj,hy0,hy1,hy2⟩:=info_parts zfy
 cases oa with
 | none =>
   have hm0:m=0:=by
     rcases Nat.eq_zero_or_pos m with h | h
     · exact h
     · obtain ⟨_,_,h2,_⟩:=hnews h;cases h2
   subst hm0
   have hn:news=[]:=List.length_eq_zero_iff.1 (by omega)
   subst hn
   clear hnews h1 hl
   have qT:∀ w:World,(binOp .eql 160 (.slice none 0 c) (.slice none 0 0)).run Tryz.prog w=.ok (.bool true) w:=fun w=>Lib.run_eql_slice_nil w _ _ none 0 c 0 0 Tryz.underlying160
   go_enter Tryz.func176,Tryz.ntmps176
   go_wp2_with fail
   go_ret
   exact ⟨_,rfl,World.ownsRow_nil _ _ _ _,Below.refl _ _⟩
 | some a =>
   have B0:Below w.heap.size w (w.alloc (.cells #[] 9)):=(Below.refl _ _).alloc (Nat.le_refl _) _
   have HA:=y30h (fun ty=>zc4 160 ty 9 j0 _ 1 16 Tryz.underlying160 hj hy0 hy1 hy2 rfl (by omega) (zf2 w 9 1) (some a) m c news hl (fun h=>by
     obtain ⟨b,o,e,hb,hn⟩:=hnews h
     exact ⟨b,o,e,fun j u hu=>(B0.cell (p:=⟨b,o + j,none⟩) hb).trans (hn j u hu)⟩) h1 (by omega) (by omega) B0.size)
   have HB0:=y30h B0
   clear hnews h1 hl B0 hj hy0 hy1 hy2
   have qT:∀ w:World,(binOp .eql 160 (.slice (some a) m c) (.slice none 0 0)).run Tryz.prog w=.ok (.bool false) w:=fun w=>Lib.run_eql_slice_nil w _ _ (some a) m c 0 0 Tryz.underlying160
   go_enter Tryz.func176,Tryz.ntmps176
   go_wp2_with (at_builtin;obtain ⟨v',w',hrun,hown,hgr⟩:=HA.out _;refine Lib.wpList_append_run _ rfl _ _ _ _ rfl _ _ rfl rfl _ _ hrun ?_)
   go_ret
   exact ⟨_,rfl,by simpa using hown,HB0.out.grown hgr HB0.out.size (fun k hk=>by simp [Value.ownBlock] at hk;omega)⟩
theorem zpt (oa:Option Addr) (m c:Nat) (news:List Value) (w:World) (hl:news.length=m * 5) (hnews:0 < m→∃ b o,oa=some ⟨b,o,none⟩∧b < w.heap.size∧∀ j u,news[j]?=some u→w.cell? ⟨b,o + j,none⟩=some u) (h1:∀ u∈news,u.oneCell'=true) (hm:m≤30000) (hc:c≤maxLen) :
   Calls Tryz.prog 185 #[.slice oa m c] w fun e w'=>∃ v',e=.returned v'∧w'.ownsRow w.heap.size 32 5 v' m news∧Below w.heap.size w w':=by
 obtain ⟨j0,hj,hy0,hy1,hy2⟩:=info_parts z0l
 cases oa with
 | none =>
   have hm0:m=0:=by
     rcases Nat.eq_zero_or_pos m with h | h
     · exact h
     · obtain ⟨_,_,h2,_⟩:=hnews h;cases h2
   subst hm0
   have hn:news=[]:=List.length_eq_zero_iff.1 (by omega)
   subst hn
   clear hnews h1 hl
   have qT:∀ w:World,(binOp .eql 30 (.slice none 0 c) (.slice none 0 0)).run Tryz.prog w=.ok (.bool true) w:=fun w=>Lib.run_eql_slice_nil w _ _ none 0 c 0 0 Tryz.underlying30
   go_enter Tryz.func185,Tryz.ntmps185
   go_wp2_with fail
   go_ret
   exact ⟨_,rfl,World.ownsRow_nil _ _ _ _,Below.refl _ _⟩
 | some a =>
   have B0:Below w.heap.size w (w.alloc (.cells #[] 32)):=(Below.refl _ _).alloc (Nat.le_refl _) _
   have HA:=y30h (fun ty=>zc4 30 ty 32 j0 _ 5 72 Tryz.underlying30 hj hy0 hy1 hy2 rfl (by omega) (zf2 w 32 5) (some a) m c news hl (fun h=>by
     obtain ⟨b,o,e,hb,hn⟩:=hnews h
     exact ⟨b,o,e,fun j u hu=>(B0.cell (p:=⟨b,o + j,none⟩) hb).trans (hn j u hu)⟩) h1 (by omega) (by omega) B0.size)
   have HB0:=y30h B0
   clear hnews h1 hl B0 hj hy0 hy1 hy2
   have qT:∀ w:World,(binOp .eql 30 (.slice (some a) m c) (.slice none 0 0)).run Tryz.prog w=.ok (.bool false) w:=fun w=>Lib.run_eql_slice_nil w _ _ (some a) m c 0 0 Tryz.underlying30
   go_enter Tryz.func185,Tryz.ntmps185
   go_wp2_with (at_builtin;obtain ⟨v',w',hrun,hown,hgr⟩:=HA.out _;refine Lib.wpList_append_run _ rfl _ _ _ _ rfl _ _ rfl rfl _ _ hrun ?_)
   go_ret
   exact ⟨_,rfl,by simpa using hown,HB0.out.grown hgr HB0.out.size (fun k hk=>by simp [Value.ownBlock] at hk;omega)⟩
theorem zh1 (l:List Itm) (v:Value) (w:World) (hR:Row 8 ic w l v) (hm:l.length≤30000) :
   Calls Tryz.prog 133 #[v] w fun e w'=>∃ v',e=.returned v'∧OwnI w' w.heap.size l v'∧Below w.heap.size w w':=by
 obtain ⟨oa,cap,b,o,rfl,h⟩:=hR
 exact zps oa l.length cap (zay l) w (ze8 l) (fun h0=>⟨b,o,(h.at0 h0).1,(h.at0 h0).2,fun j u hu=>by
   obtain ⟨rfl,_⟩:=h.at0 h0
   have:=zij h rfl j u hu
   rwa [zfj] at this⟩) (zje l) hm h.max
theorem znz (l:List ByteArray) (v:Value) (w:World) (hR:TxW w l v) (hm:l.length≤30000) :
   Calls Tryz.prog 176 #[v] w fun e w'=>∃ v',e=.returned v'∧OwnT w' w.heap.size l v'∧Below w.heap.size w w':=by
 obtain ⟨oa,cap,b,o,rfl,h⟩:=hR
 exact zpu oa l.length cap (txC l) w (by simp [txC]) (fun h0=>⟨b,o,(h.at0 h0).1,(h.at0 h0).2,fun j u hu=>by
   unfold txC at hu
   rw [List.getElem?_map] at hu
   obtain ⟨s,hs,rfl⟩:=Option.map_eq_some_iff.1 hu
   exact h.cell j s hs⟩) (fun u hu=>by
   unfold txC at hu
   obtain ⟨s,_,rfl⟩:=List.mem_map.1 hu
   rfl) hm h.max
theorem znx (l:List Fr) (U:Nat→Value) (oa:Option Addr) (cap b o:Nat) (w:World) (h:FrAt w l U oa cap b o) (hm:l.length≤30000) :
   Calls Tryz.prog 175 #[.slice oa l.length cap] w fun e w'=>∃ v',e=.returned v'∧w'.ownsRow w.heap.size 162 9 v' l.length (frCs U 0 l)∧Below w.heap.size w w' :=
 zpr oa l.length cap (frCs U 0 l) w (zdh U 0 l) (fun h0=>⟨b,o,(h.at0 h0).1,(h.at0 h0).2,fun j u hu=>by
   obtain ⟨rfl,_⟩:=h.at0 h0
   have:=zmf h j u hu
   rwa [zfj] at this⟩) (zmn h) hm h.max
theorem zny (l:List Pr) (V:Nat→Value) (oa:Option Addr) (cap b o:Nat) (w:World) (hc:cap≤maxLen) (hn:0 < l.length→oa=some ⟨b,o,none⟩∧b < w.heap.size)
   (hcell:∀ i p,l[i]?=some p→∀ j u,(pc p (V i))[j]?=some u→w.cell? ⟨b,o + i * 5 + j,none⟩=some u) (h1:∀ i p,l[i]?=some p→(V i).oneCell'=true) (hm:l.length≤30000) :
   Calls Tryz.prog 185 #[.slice oa l.length cap] w fun e w'=>∃ v',e=.returned v'∧w'.ownsRow w.heap.size 32 5 v' l.length (zaz V 0 l)∧Below w.heap.size w w' :=
 zpt oa l.length cap (zaz V 0 l) w (zow V 0 l) (fun h0=>⟨b,o,(hn h0).1,(hn h0).2,fun j u hu=>by
   have hj:=(List.getElem?_eq_some_iff.1 hu).1
   rw [zow] at hj
   have hp:l[j / 5]?=some l[j / 5]:=List.getElem?_eq_getElem (by omega)
   have e:j=j / 5 * 5 + j % 5:=by omega
   rw [e,zfn V 0 l _ _ hp _ (by omega),Nat.zero_add] at hu
   have:=hcell _ _ hp _ _ hu
   rw [show o + j / 5 * 5 + j % 5=o + j by omega] at this
   exact this⟩) (zwk fun i p hp=>by rw [Nat.zero_add];exact h1 i p hp) hm hc
theorem zx3 {w:World} {b:Nat} {id:ByteArray} (h:Own w b #[.string id] 9) (hid:id.size≤maxLen):TxW w [id] (.slice (some ⟨b,0,none⟩) 1 1) :=
 ⟨some ⟨b,0,none⟩,1,b,0,rfl,by simp,by unfold maxLen;omega,fun _=>⟨rfl,h.lt⟩,fun k s hk=>by
   have:k=0:=by have:=posA hk;simp at this;omega
   subst this
   simp at hk;subst hk
   rw [h.cell];rfl,fun s hs=>by simp at hs;subst hs;exact hid⟩
theorem z1k {w:World} {b:Nat} {f:Fr} {u:Value} (h:Own w b #[u,.int .i64 (f.v 0),.int .i64 (f.v 1),.int .i64 (f.v 2),.int .i64 (f.v 3),.int .i64 (f.v 4),.int .i64 (f.v 5),.int .i64 (f.v 6),.int .i64 (f.v 7)] 162) (hT:TxW w f.ids u):FrAt w [f] (fun _=>u) (some ⟨b,0,none⟩) 1 b 0 :=
 ⟨by simp,by unfold maxLen;omega,fun _=>⟨rfl,h.lt⟩,fun k g hk j z hz=>by
   have:k=0:=by have:=posA hk;simp at this;omega
   subst this
   simp at hk;subst hk
   rw [h.cell]
   have hj:j < 9:=(List.getElem?_eq_some_iff.1 hz).1
   rw [← hz]
   obtain rfl | rfl | rfl | rfl | rfl | rfl | rfl | rfl | rfl:j=0 ∨ j=1 ∨ j=2 ∨ j=3 ∨ j=4 ∨ j=5 ∨ j=6 ∨ j=7 ∨ j=8:=by omega
   all_goals rfl,fun k g hk=>by
   have:k=0:=by have:=posA hk;simp at this;omega
   subst this
   simp at hk;subst hk
   exact hT⟩
theorem FrOwn.set9 {w:World} {B b:Nat} {l:List Fr} {v:Value} (h:FrOwn w B l v) (hb:b < B) (c0 c1 c2 c3 c4 c5 c6 c7 c8:Value):FrOwn (st9 w b c0 c1 c2 c3 c4 c5 c6 c7 c8) B l v :=
 ((((((((h.setLow (a:=⟨b,0,none⟩) hb c0).setLow (a:=⟨b,1,none⟩) hb c1).setLow (a:=⟨b,2,none⟩) hb c2).setLow (a:=⟨b,3,none⟩) hb c3).setLow (a:=⟨b,4,none⟩) hb c4).setLow (a:=⟨b,5,none⟩) hb c5).setLow (a:=⟨b,6,none⟩) hb c6).setLow (a:=⟨b,7,none⟩) hb c7).setLow (a:=⟨b,8,none⟩) hb c8
theorem zfu (K:Kn) (id:ByteArray) (r c:Int) (v:Value) (w:World) (hR:FrW w K.l v) (hid:id.size≤maxLen) (hl1:(zaf (zal K id r c).l).length≤10000) (hl2:K.l.length≤10000) :
   Calls Tryz.prog 64 #[knV K.star v,.string id,.agg #[.int .i64 r,.int .i64 c]] w fun e w'=>∃ v',e=.returned (knV K.star v')∧FrOwn w' w.heap.size (zah (zal K id r c)).l v'∧Below w.heap.size w w':=by
 obtain ⟨U,ov,cv,b,o,rfl,hF⟩:=hR
 unfold zal at *
 obtain ⟨A,l⟩:=K
 simp only at *
 have CW:=fun w'=>y30h (show Calls Tryz.prog 140 #[.agg #[.int .i64 0,.int .i64 0,.int .i64 0,.int .i64 0,.int .i64 0,.int .i64 0,.int .i64 0,.int .i64 0],.agg #[.int .i64 r,.int .i64 c]] w' (fun e w''=>e=.returned (vecV (zav zad r c))∧Below w'.heap.size w' w'') from znl zad r c w')
 generalize zav zad r c=V at *
 have HF:=y30h hF
 have HL:=y30h hl1
 have hl3:l.length + [(⟨[id],V⟩:Fr)].length≤20000:=by simp;omega
 have CP:=fun u w' h=>y30h (zfk ⟨A,l ++ [⟨[id],V⟩]⟩ u w' h HL.out)
 generalize (zah ⟨A,l ++ [⟨[id],V⟩]⟩).l=res at *
 have O1:=y30h ((((Own.newAt w (knA A (.slice ov l.length cv)) 38 (b:=w.heap.size) (by first | rfl | simp)).alloc (.cells #[.int .i64 r,.int .i64 c] 52)).alloc (.cells (knA zad (.slice none 0 0)) 38)).alloc (.cells #[.string id] 9))
 have O2:=y30h (((Own.newAt (w.alloc (.cells (knA A (.slice ov l.length cv)) 38)) #[.int .i64 r,.int .i64 c] 52 (b:=w.heap.size + 1) (by first | rfl | simp)).alloc (.cells (knA zad (.slice none 0 0)) 38)).alloc (.cells #[.string id] 9))
 have O3:=y30h ((Own.newAt ((w.alloc (.cells (knA A (.slice ov l.length cv)) 38)).alloc (.cells #[.int .i64 r,.int .i64 c] 52)) (knA zad (.slice none 0 0)) 38 (b:=w.heap.size + 1 + 1) (by first | rfl | simp)).alloc (.cells #[.string id] 9))
 have O4:=y30h (Own.newAt (((w.alloc (.cells (knA A (.slice ov l.length cv)) 38)).alloc (.cells #[.int .i64 r,.int .i64 c] 52)).alloc (.cells (knA zad (.slice none 0 0)) 38)) #[.string id] 9 (b:=w.heap.size + 1 + 1 + 1) (by first | rfl | simp))
 have BE:=y30h (((((Below.refl w.heap.size w).alloc (by first | exact Nat.le_refl _ | (simp;omega) | simp) (.cells (knA A (.slice ov l.length cv)) 38)).alloc (by first | exact Nat.le_refl _ | (simp;omega) | simp) (.cells #[.int .i64 r,.int .i64 c] 52)).alloc (by first | exact Nat.le_refl _ | (simp;omega) | simp) (.cells (knA zad (.slice none 0 0)) 38)).alloc (by first | exact Nat.le_refl _ | (simp;omega) | simp) (.cells #[.string id] 9))
 clear hF hl1
 have l2:=O2.out.cell
 have z2:=O2.out.lt
 go_enter Tryz.func64,Tryz.ntmps64
 go_wp2_with (first
   | (go_at_call 140;refine (CW _).out.mono ?_;rintro e w5 ⟨rfl,hb5⟩;clear l2 z2;replace O1:=y30h (O1.out.later hb5);replace O3:=y30h (O3.out.later hb5);replace O4:=y30h (O4.out.later hb5);replace BE:=y30h (BE.out.trans (hb5.mono BE.out.size));clear hb5;have l1:=O1.out.cell;have z1:=O1.out.lt;have P2:=y30h ((Own.newAt (w5.alloc (.cells #[.slice (some ⟨w.heap.size + 1 + 1 + 1,0,none⟩) 1 1,.int .i64 (V 0),.int .i64 (V 1),.int .i64 (V 2),.int .i64 (V 3),.int .i64 (V 4),.int .i64 (V 5),.int .i64 (V 6),.int .i64 (V 7)] 162)) #[.slice (some ⟨w.heap.size + 1 + 1 + 1,0,none⟩) 1 1,.int .i64 (V 0),.int .i64 (V 1),.int .i64 (V 2),.int .i64 (V 3),.int .i64 (V 4),.int .i64 (V 5),.int .i64 (V 6),.int .i64 (V 7)] 162 (b:=w5.heap.size + 1) (by first | rfl | simp)).alloc (.cells #[.slice ov l.length cv,.slice (some ⟨w5.heap.size + 1,0,none⟩) 1 1] 36));have P3:=y30h (Own.newAt ((w5.alloc (.cells #[.slice (some ⟨w.heap.size + 1 + 1 + 1,0,none⟩) 1 1,.int .i64 (V 0),.int .i64 (V 1),.int .i64 (V 2),.int .i64 (V 3),.int .i64 (V 4),.int .i64 (V 5),.int .i64 (V 6),.int .i64 (V 7)] 162)).alloc (.cells #[.slice (some ⟨w.heap.size + 1 + 1 + 1,0,none⟩) 1 1,.int .i64 (V 0),.int .i64 (V 1),.int .i64 (V 2),.int .i64 (V 3),.int .i64 (V 4),.int .i64 (V 5),.int .i64 (V 6),.int .i64 (V 7)] 162)) #[.slice ov l.length cv,.slice (some ⟨w5.heap.size + 1,0,none⟩) 1 1] 36 (b:=w5.heap.size + 1 + 1) (by first | rfl | simp));have PB:=y30h ((((Below.refl w5.heap.size w5).alloc (by first | exact Nat.le_refl _ | (simp;omega) | simp) (.cells #[.slice (some ⟨w.heap.size + 1 + 1 + 1,0,none⟩) 1 1,.int .i64 (V 0),.int .i64 (V 1),.int .i64 (V 2),.int .i64 (V 3),.int .i64 (V 4),.int .i64 (V 5),.int .i64 (V 6),.int .i64 (V 7)] 162)).alloc (by first | exact Nat.le_refl _ | (simp;omega) | simp) (.cells #[.slice (some ⟨w.heap.size + 1 + 1 + 1,0,none⟩) 1 1,.int .i64 (V 0),.int .i64 (V 1),.int .i64 (V 2),.int .i64 (V 3),.int .i64 (V 4),.int .i64 (V 5),.int .i64 (V 6),.int .i64 (V 7)] 162)).alloc (by first | exact Nat.le_refl _ | (simp;omega) | simp) (.cells #[.slice ov l.length cv,.slice (some ⟨w5.heap.size + 1,0,none⟩) 1 1] 36));have TX:=y30h (zx3 (O4.out.later PB.out) hid);have CC:=y30h (zrl l [⟨[id],V⟩] U (fun _=>.slice (some ⟨w.heap.size + 1 + 1 + 1,0,none⟩) 1 1) ov (some ⟨w5.heap.size + 1,0,none⟩) cv 1 b (w5.heap.size + 1) o 0 (w5.heap.size + 1 + 1) _ P3.out.lt (P3.out.cell 0) (P3.out.cell 1) (HF.out.later (BE.out.trans (PB.out.mono BE.out.size)) (Nat.le_refl _)) (z1k (f:=⟨[id],V⟩) P2.out TX.out) hl3))
   | (go_at_call 141;refine CC.out.mono ?_;rintro e w7 ⟨u,rfl,hrow,hb7⟩;obtain ⟨ou,cu,gu,rfl,_,_,_⟩:=zaq hrow;clear l1 z1;have HB57:=y30h (PB.out.trans (hb7.mono PB.out.size));replace O1:=y30h (O1.out.later HB57.out);replace O3:=y30h (O3.out.later HB57.out);replace O4:=y30h (O4.out.later HB57.out);have BE7:=y30h (BE.out.trans (HB57.out.mono BE.out.size));have HROW:=y30h hrow;clear hrow hb7;have l1:=O1.out.cell;have f1:=O1.out.free;have z1:=O1.out.lt;have BS:=y30h (BE7.out.setCell (p:=⟨w.heap.size,8,none⟩) (Nat.le_refl _) (.slice ou (l ++ [(⟨[id],V⟩:Fr)]).length cu));have HFR:=y30h (zzu (ownsRow_setCell_below HROW.out (a:=⟨w.heap.size,8,none⟩) (by have:=BE.out.size;simp;omega) (.slice ou (l ++ [(⟨[id],V⟩:Fr)]).length cu)) (fun k f hf=>(HF.out.ids k f hf).later BS.out (Nat.le_refl _)) (fun k f hf=>by (have:k=0:=by have:=posA hf;simp at this;omega);subst this;simp at hf;subst hf;exact zx3 (O4.out.setFar _ _ (by show w.heap.size + 1 + 1 + 1 ≠ w.heap.size;omega)) hid));have HP:=CP _ _ HFR.out;have O3S:=y30h (O3.out.setFar ⟨w.heap.size,8,none⟩ (.slice ou (l ++ [(⟨[id],V⟩:Fr)]).length cu) (by show w.heap.size + 1 + 1 ≠ w.heap.size;omega));clear HFR CC PB P2 P3 TX O4;generalize (l ++ [(⟨[id],V⟩:Fr)]).length=n9 at *)
   | (go_at_call 142;refine HP.out.mono ?_;rintro e w8 ⟨v8,rfl,hfr8,hb8⟩;obtain ⟨o8,c8,rfl⟩:=hfr8.fr.val;clear l1 f1 z1;have O38:=y30h (O3S.out.later hb8);have BE8:=y30h (BS.out.trans (hb8.mono BS.out.size));have l3:=O38.out.cell;have f3:=O38.out.free;have z3:=O38.out.lt;have z38:=y30h (O3S.out.lt);have z37:=y30h BS.out.size;have HFF:=y30h hfr8;clear hb8 hfr8)
   | fail)
 clear l3 f3 z3
 have key:=And.intro (zcg O38.out (.int .i64 (A 0)) (.int .i64 (A 1)) (.int .i64 (A 2)) (.int .i64 (A 3)) (.int .i64 (A 4)) (.int .i64 (A 5)) (.int .i64 (A 6)) (.int .i64 (A 7)) (.slice o8 res.length c8)) (And.intro (zbp (b:=w.heap.size + 1 + 1) BE8.out (by omega) (.int .i64 (A 0)) (.int .i64 (A 1)) (.int .i64 (A 2)) (.int .i64 (A 3)) (.int .i64 (A 4)) (.int .i64 (A 5)) (.int .i64 (A 6)) (.int .i64 (A 7)) (.slice o8 res.length c8)) (HFF.out.set9 z38.out (.int .i64 (A 0)) (.int .i64 (A 1)) (.int .i64 (A 2)) (.int .i64 (A 3)) (.int .i64 (A 4)) (.int .i64 (A 5)) (.int .i64 (A 6)) (.int .i64 (A 7)) (.slice o8 res.length c8)))
 clear O38 BE8 HFF z38
 unfold st9 st8 at key
 revert key
 generalize World.setCell (World.setCell (World.setCell (World.setCell (World.setCell (World.setCell (World.setCell (World.setCell (World.setCell _ _ _) _ _) _ _) _ _) _ _) _ _) _ _) _ _) _ _=WW
 rintro ⟨of,bf,ff⟩
 have lf:=of.cell
 refine bodyPost_ret (v:=knV A (.slice o8 res.length c8)) (by simp [results,Tryz.results64,go_sem,lf]) rfl ⟨_,rfl,ff.mono z37.out,bf⟩
theorem zcp (K:Kn) (id:ByteArray) (r c:Int) (v:Value) (w:World) (hR:FrW w K.l v) (hid:id.size≤maxLen) (hl1:(zaf (zal K id r c).l).length≤10000) (hl2:K.l.length≤10000) :
   Calls Tryz.prog 64 #[knV K.star v,.string id,.agg #[.int .i64 r,.int .i64 c]] w fun e w'=>∃ v',e=.returned (knV K.star v')∧FrFresh w' w.heap.size (zah (zal K id r c)).l v'∧Below w.heap.size w w' :=
 (zfu K id r c v w hR hid hl1 hl2).mono fun _ _ ⟨v',he,hf,hb⟩=>⟨v',he,hf.fresh,hb⟩
theorem zjc {P:Program} {ops:Array Oper} {rest:List Oper} {op:Oper} {a:Act} {w:World} {Q:Exit→Act→World→Prop} (hw:Region.wanted op (yielded ops a.tmps)=true) (ty:TypeId) (x:Operand) (ho:op.op=.load ty x)
   (b o:Nat) (hx:a.eval x=.pointer (some ⟨b,o,none⟩)) (cs:List Value) (d:TypeDesc) (hc:w.rangeAt b o cs)
   (hu:P.underlying ty=some d) (hd:d.isRow=true) (hi:(P.info? ty).map (·.size)=some cs.length)
   (h:wpList P ops Q rest (a.put op.dst (.agg cs.toArray)) w):wpList P ops Q (op :: rest) a w :=
 wpList_step fun K hK=>by rw [if_pos hw];exact wp_load_mid ty x ho b o hx cs d hc hu hd hi (hK _ _ h)
theorem zkx (n a b:Int) (w:World) :
   Calls Tryz.prog 54 #[.int .i64 n,.int .i64 a,.int .i64 b] w fun e w'=>e=.returned (.bool (inB n a b))∧w=w':=by
 unfold inB
 by_cases h:a≤n <;> by_cases h':n≤b <;>
 ( go_enter Tryz.func54,Tryz.ntmps54
   go_wp2
   go_ret
   exact ⟨zac (by simp [h,h']),rfl⟩ )
theorem zku (x:Itm) (p:Pr) (v:Value) (w:World) (hL:LP w p v) (hx:x.id.size≤maxLen) :
   Calls Tryz.prog 139 #[prV p v,iV x] w fun e w'=>e=.returned (.bool (hasT p x))∧Below w.heap.size w w':=zml x.it x.r x.c x.st x.d hx p v w hL
structure StO (w:World) (s:St) (fv sv ov kv:Value) (b:Nat):Prop where
 o:Own w b (stA s fv sv ov kv) 40
 w:StW w s fv sv ov kv
theorem StO.later {w w':World} {s:St} {fv sv ov kv:Value} {b:Nat} (h:StO w s fv sv ov kv b) (hb:Below w.heap.size w w'):StO w' s fv sv ov kv b:=⟨h.o.later hb,h.w.later hb⟩
theorem StO.alloc {w:World} {s:St} {fv sv ov kv:Value} {b:Nat} (h:StO w s fv sv ov kv b) (o:Obj):StO (w.alloc o) s fv sv ov kv b:=⟨h.o.alloc o,h.w.alloc o⟩
theorem StO.drew {w:World} {s:St} {fv sv ov kv:Value} {b:Nat} (h:StO w s fv sv ov kv b):StO w.drew s fv sv ov kv b:=⟨h.o.drew,h.w.drew⟩
def FstI (P:Itm→Bool) (l:List Itm) (n:Int):Prop:=(∃ (k:Nat) (x:Itm),l[k]?=some x∧P x=true∧n=k∧(l.take k).any P=false) ∨ (n=-1∧l.any P=false)
theorem FstI.any {P:Itm→Bool} {l:List Itm} {n:Int} (h:FstI P l n):decide (0≤n)=l.any P:=by
 rcases h with ⟨k,x,hx,hp,rfl,_⟩ | ⟨rfl,h⟩
 · rw [List.any_eq_true.2 ⟨x,List.mem_of_getElem? hx,hp⟩];simp
 · rw [h];rfl
end Go.Proofs.YtodfhabkdaiopaaGreat
