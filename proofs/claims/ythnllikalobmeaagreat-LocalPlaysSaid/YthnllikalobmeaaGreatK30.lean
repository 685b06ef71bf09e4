/- Joined: LocA, KCodeB, LocM1, KCodeD. -/
import Derived.Test.YthnllikalobmeaaGreatK22
import Derived.Test.YthnllikalobmeaaGreatK28
import Derived.Test.YthnllikalobmeaaGreatK21
import Derived.Lib.SliceRun
import Derived.Test.YthnllikalobmeaaGreatK29
import Derived.Test.YthnllikalobmeaaGreatK03
import Derived.Test.YthnllikalobmeaaGreatK23
import Derived.Test.YthnllikalobmeaaGreatK12
import Derived.Deep.RegionHeld3
import Derived.Lib.QuietBelow
import Derived.BigQuiet
import Derived.Deep.RegionLaw
namespace Go.Proofs.YthnllikalobmeaaGreat
set_option linter.unusedVariables false
set_option linter.unusedSimpArgs false
set_option maxRecDepth 100000
set_option maxHeartbeats 8000000
open Go.RowKit
theorem y30h {p:Prop} (h:p):Hid p:=Lib.hid h
theorem zcp (t ty e:TypeId) (i:TypeInfo) (z:Value) (size bytes:Nat) (ht:Tryz.prog.underlying t = some (.slice e)) (hi:Tryz.prog.info? e = some i) (hz:i.zero = some z)
   (hsize:i.size = size) (hby:i.bytes = bytes) (hzs:z.cells.size = size) (hsz:0 < size) {w:World} {base:Nat} {v:Value} {n:Nat} {xs:List Value} (hown:w.ownsRow base e size v n xs)
   (oa:Option Addr) (m c:Nat) (news:List Value) (hl:news.length = m * size) (hnews:0 < m → ∃ b o,oa = some ⟨b,o,none⟩ ∧ ∀ j u,news[j]? = some u → w.cell? ⟨b,o + j,none⟩ = some u) (h1:∀ u ∈ news,u.oneCell' = true)
   (h63:n + m ≤ 30000) (hb:bytes ≤ 1000) (hbase:base ≤ w.heap.size) :
   ∃ v' w',(Builtin.append_ #[t,t] ty #[v,.slice oa m c]).run Tryz.prog w = .ok v' w' ∧ w'.ownsRow base e size v' (n + m) (xs ++ news) ∧ w.grownBy w' v.ownBlock:=by
 by_cases h0:m = 0
 · subst h0
   obtain ⟨ov,cv,gv,e',h1',_⟩:=zan hown
   subst e'
   have hf:(Builtin.firstCells i.size 0 (.slice oa 0 c)).run Tryz.prog w = .ok #[] w:=by
     cases oa with
     | none=>exact run_firstCells_none w _ _ _ _
     | some a=>exact run_firstCells_some w i.size 0 a 0 c [] (by simp) (fun j v h=>by simp at h)
   have hn:news = []:=List.length_eq_zero_iff.1 (by omega)
   subst hn
   have hr:(Builtin.append_ #[t,t] ty #[.slice ov n cv,.slice oa 0 c]).run Tryz.prog w = .ok (.slice ov n cv) w:=by
     cases ov with
     | none=>simp [Builtin.append_,run_underlying ht,sizeOf,typeInfo,hi,Builtin.lenOf,h1',hf,Result.andThen]
     | some a=>simp [Builtin.append_,run_underlying ht,sizeOf,typeInfo,hi,Builtin.lenOf,h1',hf,zmb,Result.andThen]
   exact ⟨_,w,hr,by simpa using hown,⟨rfl,rfl,rfl,Nat.le_refl _,fun _ _ _=>rfl⟩⟩
 · obtain ⟨b,o,rfl,hn⟩:=hnews (by omega)
   obtain ⟨v',w',r1,r2,r3,_⟩:=run_append_own w base t ty e i z size bytes ht hi hz hsize hby hzs hsz v n xs hown ⟨b,o,none⟩ m c news hl (fun j u hu=>by rw [zez];exact hn j u hu) h1 (by unfold maxLen;omega) (Nat.le_trans (Nat.mul_le_mul h63 hb) (by decide)) hbase
   exact ⟨v',w',r1,r2,r3⟩
theorem zfo (w:World) (e:TypeId) (size:Nat):(w.alloc (.cells #[] e)).ownsRow w.heap.size e size (.slice (some ⟨w.heap.size,0,none⟩) 0 0) 0 [] :=
 ⟨by simp,.inr ⟨w.heap.size,0,#[],rfl,Nat.le_refl _,heap_alloc_new w _,Nat.le_refl _,Nat.zero_le _,by simp,by simp⟩⟩
theorem z0g:(Tryz.prog.info? 40).map (fun i=>(i.zero,i.size,i.bytes)) = some (some (.agg #[.int .i64 0,.string ⟨#[]⟩,.int .i64 0,.complex .f64 0 0,.slice none 0 0]),5,72):=by kernel_rfl
theorem zpm (oa:Option Addr) (m c:Nat) (news:List Value) (w:World) (hl:news.length = m * 8) (hnews:0 < m → ∃ b o,oa = some ⟨b,o,none⟩ ∧ b < w.heap.size ∧ ∀ j u,news[j]? = some u → w.cell? ⟨b,o + j,none⟩ = some u) (h1:∀ u ∈ news,u.oneCell' = true) (hm:m ≤ 30000) (hc:c ≤ maxLen) :
   Calls Tryz.prog 56 #[.slice oa m c] w fun e w'=>∃ v',e = .returned v' ∧ w'.ownsRow w.heap.size 69 8 v' m news ∧ Below w.heap.size w w':=by
 obtain ⟨j0,hj,hy0,hy1,hy2⟩:=info_parts zce
 cases oa with
 | none =>
   have hm0:m = 0:=by
     rcases Nat.eq_zero_or_pos m with h | h
     · exact h
     · obtain ⟨_,_,h2,_⟩:=hnews h;cases h2
   subst hm0
   have hn:news = []:=List.length_eq_zero_iff.1 (by omega)
   subst hn
   clear hnews h1 hl
   have qT:∀ w:World,(binOp .eql 41 (.slice none 0 c) (.slice none 0 0)).run Tryz.prog w = .ok (.bool true) w:=fun w=>Lib.run_eql_slice_nil w _ _ none 0 c 0 0 Tryz.underlying41
   go_enter Tryz.func56,Tryz.ntmps56
   go_wp2_with fail
   go_ret
   exact ⟨_,rfl,World.ownsRow_nil _ _ _ _,Below.refl _ _⟩
 | some a =>
   have B0:Below w.heap.size w (w.alloc (.cells #[] 69)):=(Below.refl _ _).alloc (Nat.le_refl _) _
   have HA:=y30h (fun ty=>zcp 41 ty 69 j0 _ 8 88 Tryz.underlying41 hj hy0 hy1 hy2 rfl (by omega) (zfo w 69 8) (some a) m c news hl (fun h=>by
     obtain ⟨b,o,e,hb,hn⟩:=hnews h
     exact ⟨b,o,e,fun j u hu=>(B0.cell (p:=⟨b,o + j,none⟩) hb).trans (hn j u hu)⟩) h1 (by omega) (by omega) B0.size)
   have HB0:=y30h B0
   clear hnews h1 hl B0 hj hy0 hy1 hy2
   have qT:∀ w:World,(binOp .eql 41 (.slice (some a) m c) (.slice none 0 0)).run Tryz.prog w = .ok (.bool false) w:=fun w=>Lib.run_eql_slice_nil w _ _ (some a) m c 0 0 Tryz.underlying41
   go_enter Tryz.func56,Tryz.ntmps56
   go_wp2_with (at_builtin;obtain ⟨v',w',hrun,hown,hgr⟩:=HA.out _;refine Lib.wpList_append_run _ rfl _ _ _ _ rfl _ _ rfl rfl _ _ hrun ?_)
   go_ret
   exact ⟨_,rfl,by simpa using hown,HB0.out.grown hgr HB0.out.size (fun k hk=>by simp [Value.ownBlock] at hk;omega)⟩
theorem zpl (oa:Option Addr) (m c:Nat) (news:List Value) (w:World) (hl:news.length = m * 9) (hnews:0 < m → ∃ b o,oa = some ⟨b,o,none⟩ ∧ b < w.heap.size ∧ ∀ j u,news[j]? = some u → w.cell? ⟨b,o + j,none⟩ = some u) (h1:∀ u ∈ news,u.oneCell' = true) (hm:m ≤ 30000) (hc:c ≤ maxLen) :
   Calls Tryz.prog 115 #[.slice oa m c] w fun e w'=>∃ v',e = .returned v' ∧ w'.ownsRow w.heap.size 105 9 v' m news ∧ Below w.heap.size w w':=by
 obtain ⟨j0,hj,hy0,hy1,hy2⟩:=info_parts zcr
 cases oa with
 | none =>
   have hm0:m = 0:=by
     rcases Nat.eq_zero_or_pos m with h | h
     · exact h
     · obtain ⟨_,_,h2,_⟩:=hnews h;cases h2
   subst hm0
   have hn:news = []:=List.length_eq_zero_iff.1 (by omega)
   subst hn
   clear hnews h1 hl
   have qT:∀ w:World,(binOp .eql 29 (.slice none 0 c) (.slice none 0 0)).run Tryz.prog w = .ok (.bool true) w:=fun w=>Lib.run_eql_slice_nil w _ _ none 0 c 0 0 Tryz.underlying29
   go_enter Tryz.func115,Tryz.ntmps115
   go_wp2_with fail
   go_ret
   exact ⟨_,rfl,World.ownsRow_nil _ _ _ _,Below.refl _ _⟩
 | some a =>
   have B0:Below w.heap.size w (w.alloc (.cells #[] 105)):=(Below.refl _ _).alloc (Nat.le_refl _) _
   have HA:=y30h (fun ty=>zcp 29 ty 105 j0 _ 9 88 Tryz.underlying29 hj hy0 hy1 hy2 rfl (by omega) (zfo w 105 9) (some a) m c news hl (fun h=>by
     obtain ⟨b,o,e,hb,hn⟩:=hnews h
     exact ⟨b,o,e,fun j u hu=>(B0.cell (p:=⟨b,o + j,none⟩) hb).trans (hn j u hu)⟩) h1 (by omega) (by omega) B0.size)
   have HB0:=y30h B0
   clear hnews h1 hl B0 hj hy0 hy1 hy2
   have qT:∀ w:World,(binOp .eql 29 (.slice (some a) m c) (.slice none 0 0)).run Tryz.prog w = .ok (.bool false) w:=fun w=>Lib.run_eql_slice_nil w _ _ (some a) m c 0 0 Tryz.underlying29
   go_enter Tryz.func115,Tryz.ntmps115
   go_wp2_with (at_builtin;obtain ⟨v',w',hrun,hown,hgr⟩:=HA.out _;refine Lib.wpList_append_run _ rfl _ _ _ _ rfl _ _ rfl rfl _ _ hrun ?_)
   go_ret
   exact ⟨_,rfl,by simpa using hown,HB0.out.grown hgr HB0.out.size (fun k hk=>by simp [Value.ownBlock] at hk;omega)⟩
theorem zpo (oa:Option Addr) (m c:Nat) (news:List Value) (w:World) (hl:news.length = m * 1) (hnews:0 < m → ∃ b o,oa = some ⟨b,o,none⟩ ∧ b < w.heap.size ∧ ∀ j u,news[j]? = some u → w.cell? ⟨b,o + j,none⟩ = some u) (h1:∀ u ∈ news,u.oneCell' = true) (hm:m ≤ 30000) (hc:c ≤ maxLen) :
   Calls Tryz.prog 116 #[.slice oa m c] w fun e w'=>∃ v',e = .returned v' ∧ w'.ownsRow w.heap.size 9 1 v' m news ∧ Below w.heap.size w w':=by
 obtain ⟨j0,hj,hy0,hy1,hy2⟩:=info_parts zfg
 cases oa with
 | none =>
   have hm0:m = 0:=by
     rcases Nat.eq_zero_or_pos m with h | h
     · exact h
     · obtain ⟨_,_,h2,_⟩:=hnews h;cases h2
   subst hm0
   have hn:news = []:=List.length_eq_zero_iff.1 (by omega)
   subst hn
   clear hnews h1 hl
   have qT:∀ w:World,(binOp .eql 103 (.slice none 0 c) (.slice none 0 0)).run Tryz.prog w = .ok (.bool true) w:=fun w=>Lib.run_eql_slice_nil w _ _ none 0 c 0 0 Tryz.underlying103
   go_enter Tryz.func116,Tryz.ntmps116
   go_wp2_with fail
   go_ret
   exact ⟨_,rfl,World.ownsRow_nil _ _ _ _,Below.refl _ _⟩
 | some a =>
   have B0:Below w.heap.size w (w.alloc (.cells #[] 9)):=(Below.refl _ _).alloc (Nat.le_refl _) _
   have HA:=y30h (fun ty=>zcp 103 ty 9 j0 _ 1 16 Tryz.underlying103 hj hy0 hy1 hy2 rfl (by omega) (zfo w 9 1) (some a) m c news hl (fun h=>by
     obtain ⟨b,o,e,hb,hn⟩:=hnews h
     exact ⟨b,o,e,fun j u hu=>(B0.cell (p:=⟨b,o + j,none⟩) hb).trans (hn j u hu)⟩) h1 (by omega) (by omega) B0.size)
   have HB0:=y30h B0
   clear hnews h1 hl B0 hj hy0 hy1 hy2
   have qT:∀ w:World,(binOp .eql 103 (.slice (some a) m c) (.slice none 0 0)).run Tryz.prog w = .ok (.bool false) w:=fun w=>Lib.run_eql_slice_nil w _ _ (some a) m c 0 0 Tryz.underlying103
   go_enter Tryz.func116,Tryz.ntmps116
   go_wp2_with (at_builtin;obtain ⟨v',w',hrun,hown,hgr⟩:=HA.out _;refine Lib.wpList_append_run _ rfl _ _ _ _ rfl _ _ rfl rfl _ _ hrun ?_)
   go_ret
   exact ⟨_,rfl,by simpa using hown,HB0.out.grown hgr HB0.out.size (fun k hk=>by simp [Value.ownBlock] at hk;omega)⟩
theorem zpn (oa:Option Addr) (m c:Nat) (news:List Value) (w:World) (hl:news.length = m * 5) (hnews:0 < m → ∃ b o,oa = some ⟨b,o,none⟩ ∧ b < w.heap.size ∧ ∀ j u,news[j]? = some u → w.cell? ⟨b,o + j,none⟩ = some u) (h1:∀ u ∈ news,u.oneCell' = true) (hm:m ≤ 30000) (hc:c ≤ maxLen) :
   Calls Tryz.prog 96 #[.slice oa m c] w fun e w'=>∃ v',e = .returned v' ∧ w'.ownsRow w.heap.size 40 5 v' m news ∧ Below w.heap.size w w':=by
 obtain ⟨j0,hj,hy0,hy1,hy2⟩:=info_parts z0g
 cases oa with
 | none =>
   have hm0:m = 0:=by
     rcases Nat.eq_zero_or_pos m with h | h
     · exact h
     · obtain ⟨_,_,h2,_⟩:=hnews h;cases h2
   subst hm0
   have hn:news = []:=List.length_eq_zero_iff.1 (by omega)
   subst hn
   clear hnews h1 hl
   have qT:∀ w:World,(binOp .eql 38 (.slice none 0 c) (.slice none 0 0)).run Tryz.prog w = .ok (.bool true) w:=fun w=>Lib.run_eql_slice_nil w _ _ none 0 c 0 0 Tryz.underlying38
   go_enter Tryz.func96,Tryz.ntmps96
   go_wp2_with fail
   go_ret
   exact ⟨_,rfl,World.ownsRow_nil _ _ _ _,Below.refl _ _⟩
 | some a =>
   have B0:Below w.heap.size w (w.alloc (.cells #[] 40)):=(Below.refl _ _).alloc (Nat.le_refl _) _
   have HA:=y30h (fun ty=>zcp 38 ty 40 j0 _ 5 72 Tryz.underlying38 hj hy0 hy1 hy2 rfl (by omega) (zfo w 40 5) (some a) m c news hl (fun h=>by
     obtain ⟨b,o,e,hb,hn⟩:=hnews h
     exact ⟨b,o,e,fun j u hu=>(B0.cell (p:=⟨b,o + j,none⟩) hb).trans (hn j u hu)⟩) h1 (by omega) (by omega) B0.size)
   have HB0:=y30h B0
   clear hnews h1 hl B0 hj hy0 hy1 hy2
   have qT:∀ w:World,(binOp .eql 38 (.slice (some a) m c) (.slice none 0 0)).run Tryz.prog w = .ok (.bool false) w:=fun w=>Lib.run_eql_slice_nil w _ _ (some a) m c 0 0 Tryz.underlying38
   go_enter Tryz.func96,Tryz.ntmps96
   go_wp2_with (at_builtin;obtain ⟨v',w',hrun,hown,hgr⟩:=HA.out _;refine Lib.wpList_append_run _ rfl _ _ _ _ rfl _ _ rfl rfl _ _ hrun ?_)
   go_ret
   exact ⟨_,rfl,by simpa using hown,HB0.out.grown hgr HB0.out.size (fun k hk=>by simp [Value.ownBlock] at hk;omega)⟩
theorem ze0 (l:List Itm) (v:Value) (w:World) (hR:Row 8 ic w l v) (hm:l.length ≤ 30000) :
   Calls Tryz.prog 56 #[v] w fun e w'=>∃ v',e = .returned v' ∧ OwnI w' w.heap.size l v' ∧ Below w.heap.size w w':=by
 obtain ⟨oa,cap,b,o,rfl,h⟩:=hR
 exact zpm oa l.length cap (zat l) w (zc4 l) (fun h0=>⟨b,o,(h.at0 h0).1,(h.at0 h0).2,fun j u hu=>by
   obtain ⟨rfl,_⟩:=h.at0 h0
   have:=zh2 h rfl j u hu
   rwa [zez] at this⟩) (ziq l) hm h.max
theorem zni (l:List ByteArray) (v:Value) (w:World) (hR:TxW w l v) (hm:l.length ≤ 30000) :
   Calls Tryz.prog 116 #[v] w fun e w'=>∃ v',e = .returned v' ∧ OwnT w' w.heap.size l v' ∧ Below w.heap.size w w':=by
 obtain ⟨oa,cap,b,o,rfl,h⟩:=hR
 exact zpo oa l.length cap (txC l) w (by simp [txC]) (fun h0=>⟨b,o,(h.at0 h0).1,(h.at0 h0).2,fun j u hu=>by
   unfold txC at hu
   rw [List.getElem?_map] at hu
   obtain ⟨s,hs,rfl⟩:=Option.map_eq_some_iff.1 hu
   exact h.cell j s hs⟩) (fun u hu=>by
   unfold txC at hu
   obtain ⟨s,_,rfl⟩:=List.mem_map.1 hu
   rfl) hm h.max
theorem zng (l:List Fr) (U:Nat → Value) (oa:Option Addr) (cap b o:Nat) (w:World) (h:FrAt w l U oa cap b o) (hm:l.length ≤ 30000) :
   Calls Tryz.prog 115 #[.slice oa l.length cap] w fun e w'=>∃ v',e = .returned v' ∧ w'.ownsRow w.heap.size 105 9 v' l.length (frCs U 0 l) ∧ Below w.heap.size w w' :=
 zpl oa l.length cap (frCs U 0 l) w (zcz U 0 l) (fun h0=>⟨b,o,(h.at0 h0).1,(h.at0 h0).2,fun j u hu=>by
   obtain ⟨rfl,_⟩:=h.at0 h0
   have:=zlo h j u hu
   rwa [zez] at this⟩) (zlx h) hm h.max
theorem znh (l:List Pr) (V:Nat → Value) (oa:Option Addr) (cap b o:Nat) (w:World) (hc:cap ≤ maxLen) (hn:0 < l.length → oa = some ⟨b,o,none⟩ ∧ b < w.heap.size)
   (hcell:∀ i p,l[i]? = some p → ∀ j u,(pc p (V i))[j]? = some u → w.cell? ⟨b,o + i * 5 + j,none⟩ = some u) (h1:∀ i p,l[i]? = some p → (V i).oneCell' = true) (hm:l.length ≤ 30000) :
   Calls Tryz.prog 96 #[.slice oa l.length cap] w fun e w'=>∃ v',e = .returned v' ∧ w'.ownsRow w.heap.size 40 5 v' l.length (zax V 0 l) ∧ Below w.heap.size w w' :=
 zpn oa l.length cap (zax V 0 l) w (zoo V 0 l) (fun h0=>⟨b,o,(hn h0).1,(hn h0).2,fun j u hu=>by
   have hj:=(List.getElem?_eq_some_iff.1 hu).1
   rw [zoo] at hj
   have hp:l[j / 5]? = some l[j / 5]:=List.getElem?_eq_getElem (by omega)
   have e:j = j / 5 * 5 + j % 5:=by omega
   rw [e,ze4 V 0 l _ _ hp _ (by omega),Nat.zero_add] at hu
   have:=hcell _ _ hp _ _ hu
   rw [show o + j / 5 * 5 + j % 5 = o + j by omega] at this
   exact this⟩) (zwi fun i p hp=>by rw [Nat.zero_add];exact h1 i p hp) hm hc
theorem zxv {w:World} {b:Nat} {id:ByteArray} (h:Own w b #[.string id] 9) (hid:id.size ≤ maxLen):TxW w [id] (.slice (some ⟨b,0,none⟩) 1 1) :=
 ⟨some ⟨b,0,none⟩,1,b,0,rfl,by simp,by unfold maxLen;omega,fun _=>⟨rfl,h.lt⟩,fun k s hk=>by
   have:k = 0:=by have:=posA hk;simp at this;omega
   subst this
   simp at hk;subst hk
   rw [h.cell];rfl,fun s hs=>by simp at hs;subst hs;exact hid⟩
theorem z1j {w:World} {b:Nat} {f:Fr} {u:Value} (h:Own w b #[u,.int .i64 (f.v 0),.int .i64 (f.v 1),.int .i64 (f.v 2),.int .i64 (f.v 3),.int .i64 (f.v 4),.int .i64 (f.v 5),.int .i64 (f.v 6),.int .i64 (f.v 7)] 105) (hT:TxW w f.ids u):FrAt w [f] (fun _=>u) (some ⟨b,0,none⟩) 1 b 0 :=
 ⟨by simp,by unfold maxLen;omega,fun _=>⟨rfl,h.lt⟩,fun k g hk j z hz=>by
   have:k = 0:=by have:=posA hk;simp at this;omega
   subst this
   simp at hk;subst hk
   rw [h.cell]
   have hj:j < 9:=(List.getElem?_eq_some_iff.1 hz).1
   rw [← hz]
   obtain rfl | rfl | rfl | rfl | rfl | rfl | rfl | rfl | rfl:j = 0 ∨ j = 1 ∨ j = 2 ∨ j = 3 ∨ j = 4 ∨ j = 5 ∨ j = 6 ∨ j = 7 ∨ j = 8:=by omega
   all_goals rfl,fun k g hk=>by
   have:k = 0:=by have:=posA hk;simp at this;omega
   subst this
   simp at hk;subst hk
   exact hT⟩
theorem FrOwn.set9 {w:World} {B b:Nat} {l:List Fr} {v:Value} (h:FrOwn w B l v) (hb:b < B) (c0 c1 c2 c3 c4 c5 c6 c7 c8:Value):FrOwn (st9 w b c0 c1 c2 c3 c4 c5 c6 c7 c8) B l v :=
 ((((((((h.setLow (a:=⟨b,0,none⟩) hb c0).setLow (a:=⟨b,1,none⟩) hb c1).setLow (a:=⟨b,2,none⟩) hb c2).setLow (a:=⟨b,3,none⟩) hb c3).setLow (a:=⟨b,4,none⟩) hb c4).setLow (a:=⟨b,5,none⟩) hb c5).setLow (a:=⟨b,6,none⟩) hb c6).setLow (a:=⟨b,7,none⟩) hb c7).setLow (a:=⟨b,8,none⟩) hb c8
theorem zfa (K:Kn) (id:ByteArray) (r c:Int) (v:Value) (w:World) (hR:FrW w K.l v) (hid:id.size ≤ maxLen) (hl1:(zaf (zap K id r c).l).length ≤ 10000) (hl2:K.l.length ≤ 10000) :
   Calls Tryz.prog 99 #[knV K.star v,.string id,.agg #[.int .i64 r,.int .i64 c]] w fun e w'=>∃ v',e = .returned (knV K.star v') ∧ FrOwn w' w.heap.size (zai (zap K id r c)).l v' ∧ Below w.heap.size w w':=by
 obtain ⟨U,ov,cv,b,o,rfl,hF⟩:=hR
 unfold zap at *
 obtain ⟨A,l⟩:=K
 simp only at *
 have CW:=fun w'=>y30h (show Calls Tryz.prog 145 #[.agg #[.int .i64 0,.int .i64 0,.int .i64 0,.int .i64 0,.int .i64 0,.int .i64 0,.int .i64 0,.int .i64 0],.agg #[.int .i64 r,.int .i64 c]] w' (fun e w''=>e = .returned (vecV (zav zad r c)) ∧ Below w'.heap.size w' w'') from zm1 zad r c w')
 generalize zav zad r c = V at *
 have HF:=y30h hF
 have HL:=y30h hl1
 have hl3:l.length + [(⟨[id],V⟩:Fr)].length ≤ 20000:=by simp;omega
 have CP:=fun u w' h=>y30h (ze1 ⟨A,l ++ [⟨[id],V⟩]⟩ u w' h HL.out)
 generalize (zai ⟨A,l ++ [⟨[id],V⟩]⟩).l = res at *
 have O1:=y30h ((((Own.newAt w (knA A (.slice ov l.length cv)) 31 (b:=w.heap.size) (by first | rfl | simp)).alloc (.cells #[.int .i64 r,.int .i64 c] 67)).alloc (.cells (knA zad (.slice none 0 0)) 31)).alloc (.cells #[.string id] 9))
 have O2:=y30h (((Own.newAt (w.alloc (.cells (knA A (.slice ov l.length cv)) 31)) #[.int .i64 r,.int .i64 c] 67 (b:=w.heap.size + 1) (by first | rfl | simp)).alloc (.cells (knA zad (.slice none 0 0)) 31)).alloc (.cells #[.string id] 9))
 have O3:=y30h ((Own.newAt ((w.alloc (.cells (knA A (.slice ov l.length cv)) 31)).alloc (.cells #[.int .i64 r,.int .i64 c] 67)) (knA zad (.slice none 0 0)) 31 (b:=w.heap.size + 1 + 1) (by first | rfl | simp)).alloc (.cells #[.string id] 9))
 have O4:=y30h (Own.newAt (((w.alloc (.cells (knA A (.slice ov l.length cv)) 31)).alloc (.cells #[.int .i64 r,.int .i64 c] 67)).alloc (.cells (knA zad (.slice none 0 0)) 31)) #[.string id] 9 (b:=w.heap.size + 1 + 1 + 1) (by first | rfl | simp))
 have BE:=y30h (((((Below.refl w.heap.size w).alloc (by first | exact Nat.le_refl _ | (simp;omega) | simp) (.cells (knA A (.slice ov l.length cv)) 31)).alloc (by first | exact Nat.le_refl _ | (simp;omega) | simp) (.cells #[.int .i64 r,.int .i64 c] 67)).alloc (by first | exact Nat.le_refl _ | (simp;omega) | simp) (.cells (knA zad (.slice none 0 0)) 31)).alloc (by first | exact Nat.le_refl _ | (simp;omega) | simp) (.cells #[.string id] 9))
 clear hF hl1
 have l2:=O2.out.cell
 have z2:=O2.out.lt
 go_enter Tryz.func99,Tryz.ntmps99
 go_wp2_with (first
   | (go_at_call 145;refine (CW _).out.mono ?_;rintro e w5 ⟨rfl,hb5⟩;clear l2 z2;replace O1:=y30h (O1.out.later hb5);replace O3:=y30h (O3.out.later hb5);replace O4:=y30h (O4.out.later hb5);replace BE:=y30h (BE.out.trans (hb5.mono BE.out.size));clear hb5;have l1:=O1.out.cell;have z1:=O1.out.lt;have P2:=y30h ((Own.newAt (w5.alloc (.cells #[.slice (some ⟨w.heap.size + 1 + 1 + 1,0,none⟩) 1 1,.int .i64 (V 0),.int .i64 (V 1),.int .i64 (V 2),.int .i64 (V 3),.int .i64 (V 4),.int .i64 (V 5),.int .i64 (V 6),.int .i64 (V 7)] 105)) #[.slice (some ⟨w.heap.size + 1 + 1 + 1,0,none⟩) 1 1,.int .i64 (V 0),.int .i64 (V 1),.int .i64 (V 2),.int .i64 (V 3),.int .i64 (V 4),.int .i64 (V 5),.int .i64 (V 6),.int .i64 (V 7)] 105 (b:=w5.heap.size + 1) (by first | rfl | simp)).alloc (.cells #[.slice ov l.length cv,.slice (some ⟨w5.heap.size + 1,0,none⟩) 1 1] 29));have P3:=y30h (Own.newAt ((w5.alloc (.cells #[.slice (some ⟨w.heap.size + 1 + 1 + 1,0,none⟩) 1 1,.int .i64 (V 0),.int .i64 (V 1),.int .i64 (V 2),.int .i64 (V 3),.int .i64 (V 4),.int .i64 (V 5),.int .i64 (V 6),.int .i64 (V 7)] 105)).alloc (.cells #[.slice (some ⟨w.heap.size + 1 + 1 + 1,0,none⟩) 1 1,.int .i64 (V 0),.int .i64 (V 1),.int .i64 (V 2),.int .i64 (V 3),.int .i64 (V 4),.int .i64 (V 5),.int .i64 (V 6),.int .i64 (V 7)] 105)) #[.slice ov l.length cv,.slice (some ⟨w5.heap.size + 1,0,none⟩) 1 1] 29 (b:=w5.heap.size + 1 + 1) (by first | rfl | simp));have PB:=y30h ((((Below.refl w5.heap.size w5).alloc (by first | exact Nat.le_refl _ | (simp;omega) | simp) (.cells #[.slice (some ⟨w.heap.size + 1 + 1 + 1,0,none⟩) 1 1,.int .i64 (V 0),.int .i64 (V 1),.int .i64 (V 2),.int .i64 (V 3),.int .i64 (V 4),.int .i64 (V 5),.int .i64 (V 6),.int .i64 (V 7)] 105)).alloc (by first | exact Nat.le_refl _ | (simp;omega) | simp) (.cells #[.slice (some ⟨w.heap.size + 1 + 1 + 1,0,none⟩) 1 1,.int .i64 (V 0),.int .i64 (V 1),.int .i64 (V 2),.int .i64 (V 3),.int .i64 (V 4),.int .i64 (V 5),.int .i64 (V 6),.int .i64 (V 7)] 105)).alloc (by first | exact Nat.le_refl _ | (simp;omega) | simp) (.cells #[.slice ov l.length cv,.slice (some ⟨w5.heap.size + 1,0,none⟩) 1 1] 29));have TX:=y30h (zxv (O4.out.later PB.out) hid);have CC:=y30h (zri l [⟨[id],V⟩] U (fun _=>.slice (some ⟨w.heap.size + 1 + 1 + 1,0,none⟩) 1 1) ov (some ⟨w5.heap.size + 1,0,none⟩) cv 1 b (w5.heap.size + 1) o 0 (w5.heap.size + 1 + 1) _ P3.out.lt (P3.out.cell 0) (P3.out.cell 1) (HF.out.later (BE.out.trans (PB.out.mono BE.out.size)) (Nat.le_refl _)) (z1j (f:=⟨[id],V⟩) P2.out TX.out) hl3))
   | (go_at_call 146;refine CC.out.mono ?_;rintro e w7 ⟨u,rfl,hrow,hb7⟩;obtain ⟨ou,cu,gu,rfl,_,_,_⟩:=zan hrow;clear l1 z1;have HB57:=y30h (PB.out.trans (hb7.mono PB.out.size));replace O1:=y30h (O1.out.later HB57.out);replace O3:=y30h (O3.out.later HB57.out);replace O4:=y30h (O4.out.later HB57.out);have BE7:=y30h (BE.out.trans (HB57.out.mono BE.out.size));have HROW:=y30h hrow;clear hrow hb7;have l1:=O1.out.cell;have f1:=O1.out.free;have z1:=O1.out.lt;have BS:=y30h (BE7.out.setCell (p:=⟨w.heap.size,8,none⟩) (Nat.le_refl _) (.slice ou (l ++ [(⟨[id],V⟩:Fr)]).length cu));have HFR:=y30h (zzo (ownsRow_setCell_below HROW.out (a:=⟨w.heap.size,8,none⟩) (by have:=BE.out.size;simp;omega) (.slice ou (l ++ [(⟨[id],V⟩:Fr)]).length cu)) (fun k f hf=>(HF.out.ids k f hf).later BS.out (Nat.le_refl _)) (fun k f hf=>by (have:k = 0:=by have:=posA hf;simp at this;omega);subst this;simp at hf;subst hf;exact zxv (O4.out.setFar _ _ (by show w.heap.size + 1 + 1 + 1 ≠ w.heap.size;omega)) hid));have HP:=CP _ _ HFR.out;have O3S:=y30h (O3.out.setFar ⟨w.heap.size,8,none⟩ (.slice ou (l ++ [(⟨[id],V⟩:Fr)]).length cu) (by show w.heap.size + 1 + 1 ≠ w.heap.size;omega));clear HFR CC PB P2 P3 TX O4;generalize (l ++ [(⟨[id],V⟩:Fr)]).length = n9 at *)
   | (go_at_call 81;refine HP.out.mono ?_;rintro e w8 ⟨v8,rfl,hfr8,hb8⟩;obtain ⟨o8,c8,rfl⟩:=hfr8.fr.val;clear l1 f1 z1;have O38:=y30h (O3S.out.later hb8);have BE8:=y30h (BS.out.trans (hb8.mono BS.out.size));have l3:=O38.out.cell;have f3:=O38.out.free;have z3:=O38.out.lt;have z38:=y30h (O3S.out.lt);have z37:=y30h BS.out.size;have HFF:=y30h hfr8;clear hb8 hfr8)
   | fail)
 clear l3 f3 z3
 have key:=And.intro (zb6 O38.out (.int .i64 (A 0)) (.int .i64 (A 1)) (.int .i64 (A 2)) (.int .i64 (A 3)) (.int .i64 (A 4)) (.int .i64 (A 5)) (.int .i64 (A 6)) (.int .i64 (A 7)) (.slice o8 res.length c8)) (And.intro (zbh (b:=w.heap.size + 1 + 1) BE8.out (by omega) (.int .i64 (A 0)) (.int .i64 (A 1)) (.int .i64 (A 2)) (.int .i64 (A 3)) (.int .i64 (A 4)) (.int .i64 (A 5)) (.int .i64 (A 6)) (.int .i64 (A 7)) (.slice o8 res.length c8)) (HFF.out.set9 z38.out (.int .i64 (A 0)) (.int .i64 (A 1)) (.int .i64 (A 2)) (.int .i64 (A 3)) (.int .i64 (A 4)) (.int .i64 (A 5)) (.int .i64 (A 6)) (.int .i64 (A 7)) (.slice o8 res.length c8)))
 clear O38 BE8 HFF z38
 unfold st9 st8 at key
 revert key
 generalize World.setCell (World.setCell (World.setCell (World.setCell (World.setCell (World.setCell (World.setCell (World.setCell (World.setCell _ _ _) _ _) _ _) _ _) _ _) _ _) _ _) _ _) _ _ = WW
 rintro ⟨of,bf,ff⟩
 have lf:=of.cell
 refine bodyPost_ret (v:=knV A (.slice o8 res.length c8)) (by simp [results,Tryz.results99,go_sem,lf]) rfl ⟨_,rfl,ff.mono z37.out,bf⟩
theorem zc5 (K:Kn) (id:ByteArray) (r c:Int) (v:Value) (w:World) (hR:FrW w K.l v) (hid:id.size ≤ maxLen) (hl1:(zaf (zap K id r c).l).length ≤ 10000) (hl2:K.l.length ≤ 10000) :
   Calls Tryz.prog 99 #[knV K.star v,.string id,.agg #[.int .i64 r,.int .i64 c]] w fun e w'=>∃ v',e = .returned (knV K.star v') ∧ FrFresh w' w.heap.size (zai (zap K id r c)).l v' ∧ Below w.heap.size w w' :=
 (zfa K id r c v w hR hid hl1 hl2).mono fun _ _ ⟨v',he,hf,hb⟩=>⟨v',he,hf.fresh,hb⟩
theorem zcd {P:Program} {ops:Array Oper} {rest:List Oper} {op:Oper} {a:Act} {w:World} {Q:Exit → Act → World → Prop} (hw:Region.wanted op (yielded ops a.tmps) = true) (ty:TypeId) (x:Operand) (ho:op.op = .load ty x)
   (b o:Nat) (hx:a.eval x = .pointer (some ⟨b,o,none⟩)) (cs:List Value) (d:TypeDesc) (hc:w.rangeAt b o cs)
   (hu:P.underlying ty = some d) (hd:d.isRow = true) (hi:(P.info? ty).map (·.size) = some cs.length)
   (h:wpList P ops Q rest (a.put op.dst (.agg cs.toArray)) w):wpList P ops Q (op :: rest) a w :=
 wpList_step fun K hK=>by rw [if_pos hw];exact wp_load_mid ty x ho b o hx cs d hc hu hd hi (hK _ _ h)
theorem zci (n a b:Int) (w:World) :
   Calls Tryz.prog 45 #[.int .i64 n,.int .i64 a,.int .i64 b] w fun e w'=>e = .returned (.bool (inB n a b)) ∧ w = w':=by
 unfold inB
 by_cases h:a ≤ n <;> by_cases h':n ≤ b <;>
 ( go_enter Tryz.func45,Tryz.ntmps45
   go_wp2
   go_ret
   exact ⟨zaa (by simp [h,h']),rfl⟩ )
theorem zen (x:Itm) (p:Pr) (v:Value) (w:World) (hL:LP w p v) (hx:x.id.size ≤ maxLen) :
   Calls Tryz.prog 30 #[prV p v,iV x] w fun e w'=>e = .returned (.bool (hasT p x)) ∧ Below w.heap.size w w':=ztr x.it x.r x.c x.st x.d hx p v w hL
def zdt (s:St) (x:Itm):Bool:=(getI s.out x.id).2 || !hasT s.f x
def zbt (s:St) (x:Itm):Bool:=decide (x.st > s.clock) || !hasK s.k x.id x.r x.c
def zea (s:St) (k:Nat) (f:Fr):Bool:=decide (f.v k > s.count)
structure StO (w:World) (s:St) (fv sv ov kv:Value) (b:Nat):Prop where
 o:Own w b (stA s fv sv ov kv) 43
 w:StW w s fv sv ov kv
theorem StO.later {w w':World} {s:St} {fv sv ov kv:Value} {b:Nat} (h:StO w s fv sv ov kv b) (hb:Below w.heap.size w w'):StO w' s fv sv ov kv b:=⟨h.o.later hb,h.w.later hb⟩
theorem StO.alloc {w:World} {s:St} {fv sv ov kv:Value} {b:Nat} (h:StO w s fv sv ov kv b) (o:Obj):StO (w.alloc o) s fv sv ov kv b:=⟨h.o.alloc o,h.w.alloc o⟩
theorem StO.drew {w:World} {s:St} {fv sv ov kv:Value} {b:Nat} (h:StO w s fv sv ov kv b):StO w.drew s fv sv ov kv b:=⟨h.o.drew,h.w.drew⟩
theorem zn9 (s:St) (fv sv ov kv:Value) (b:Nat) (x:Itm) (w:World) (hO:StO w s fv sv ov kv b) (hx:x.id.size ≤ maxLen) :
   Calls Tryz.prog 76 #[iV x,.pointer (some ⟨b,0,none⟩)] w fun e w'=>e = .returned (.bool (hasT s.f x)) ∧ Below w.heap.size w w':=by
 obtain ⟨of_,cf,rfl⟩:=zal hO.w.lf
 have OX:=y30h (Own.new w (iA x) 69)
 have OS:=y30h (hO.alloc (.cells (iA x) 69))
 have BE:=y30h ((Below.refl w.heap.size w).alloc (Nat.le_refl _) (.cells (iA x) 69))
 have CH:=y30h (zen x s.f _ _ OS.out.w.lf hx)
 have lx:=OX.out.cell
 have ls:=OS.out.o.cell
 have zs:=OS.out.o.lt
 clear hO
 generalize hasT s.f x = hb at *
 go_enter Tryz.func76,Tryz.ntmps76
 go_wp2_with (go_at_call 30;refine CH.out.mono ?_;rintro e w3 ⟨rfl,hb3⟩)
 go_ret
 exact ⟨rfl,BE.out.trans (hb3.mono BE.out.size)⟩
theorem zm9 (s:St) (fv sv ov kv:Value) (b:Nat) (x:Itm) (w:World) (hO:StO w s fv sv ov kv b) (hr:zao s.out) (hl:s.out.length ≤ 1000) (hx:x.id.size ≤ maxLen) :
   Calls Tryz.prog 74 #[iV x,.pointer (some ⟨b,0,none⟩)] w fun e w'=>e = .returned (.bool (zdt s x)) ∧ Below w.heap.size w w':=by
 obtain ⟨of_,cf,rfl⟩:=zal hO.w.lf
 obtain ⟨oo,co,rfl⟩:=hO.w.lo.val
 have OX:=y30h (Own.new w (iA x) 69)
 have OS:=y30h (hO.alloc (.cells (iA x) 69))
 have BE:=y30h ((Below.refl w.heap.size w).alloc (Nat.le_refl _) (.cells (iA x) 69))
 have CG:=y30h (zef s.out x.id _ _ OS.out.w.lo hr hl hx)
 have lx:=OX.out.cell
 have zx:=OX.out.lt
 have ls:=OS.out.o.cell
 have zs:=OS.out.o.lt
 have e:zdt s x = ((getI s.out x.id).2 || !hasT s.f x):=rfl
 rw [e]
 clear hO e
 have CH:=fun w' h=>y30h (zen x s.f (.slice of_ s.f.kids.length cf) w' h hx)
 generalize hasT s.f x = hb at *
 generalize (getI s.out x.id).1 = y at *
 cases hg:(getI s.out x.id).2
 · rw [hg] at CG
   go_enter Tryz.func74,Tryz.ntmps74
   go_upto_region 2 with (go_at_call 75;refine CG.out.mono ?_;rintro e w3 ⟨rfl,hb3⟩;clear lx zx ls zs;replace OX:=y30h (OX.out.later hb3);replace OS:=y30h (OS.out.later hb3);replace BE:=y30h (BE.out.trans (hb3.mono BE.out.size));clear hb3)
   replace OX:=y30h (OX.out.alloc (.cells (iA y) 69))
   replace OS:=y30h (OS.out.alloc (.cells (iA y) 69))
   replace BE:=y30h (BE.out.alloc BE.out.size (.cells (iA y) 69))
   have lx:=OX.out.cell
   have zx:=OX.out.lt
   have ls:=OS.out.o.cell
   have zs:=OS.out.o.lt
   have CH:=CH _ OS.out.w.lf
   go_wp2_with (go_at_call 30;refine CH.out.mono ?_;rintro e w4 ⟨rfl,hb4⟩)
   go_ret
   exact ⟨zaa (by simp),BE.out.trans (hb4.mono BE.out.size)⟩
 · rw [hg] at CG
   go_enter Tryz.func74,Tryz.ntmps74
   go_wp2_with (go_at_call 75;refine CG.out.mono ?_;rintro e w3 ⟨rfl,hb3⟩)
   go_ret
   exact ⟨zaa (by simp),(BE.out.trans (hb3.mono BE.out.size)).alloc (by have:=BE.out.size;have:=hb3.size;omega) _⟩
theorem zhf (s:St) (fv sv ov kv:Value) (b:Nat) (x:Itm) (w:World) (hO:StO w s fv sv ov kv b) (hx:x.id.size ≤ maxLen) :
   Calls Tryz.prog 82 #[iV x,.pointer (some ⟨b,0,none⟩)] w fun e w'=>e = .returned (.bool (zbt s x)) ∧ Below w.heap.size w w':=by
 obtain ⟨ok,ck,rfl⟩:=hO.w.lk.val
 have OX:=y30h (Own.new w (iA x) 69)
 have OS:=y30h (hO.alloc (.cells (iA x) 69))
 have BE:=y30h ((Below.refl w.heap.size w).alloc (Nat.le_refl _) (.cells (iA x) 69))
 have CK:=y30h (zmn s.k x.id x.r x.c _ _ OS.out.w.lk hx)
 have lx:=OX.out.cell
 have zx:=OX.out.lt
 have ls:=OS.out.o.cell
 have zs:=OS.out.o.lt
 clear hO
 unfold zbt
 by_cases h:x.st > s.clock
 · go_enter Tryz.func82,Tryz.ntmps82
   go_wp2_with fail
   go_ret
   exact ⟨zaa (by simp [h]),BE.out⟩
 · generalize hasK s.k x.id x.r x.c = hb at *
   have h':decide (s.clock < x.st) = false:=decide_eq_false (by omega)
   go_enter Tryz.func82,Tryz.ntmps82
   go_wp2_with (go_at_call 28;refine CK.out.mono ?_;rintro e w3 ⟨rfl,hb3⟩)
   go_ret
   exact ⟨zaa (by simp [h']),BE.out.trans (hb3.mono BE.out.size)⟩
theorem zz3 (f:Fr) (u:Value) {k:Nat} (hk:k < 8):(#[u,.int .i64 (f.v 0),.int .i64 (f.v 1),.int .i64 (f.v 2),.int .i64 (f.v 3),.int .i64 (f.v 4),.int .i64 (f.v 5),.int .i64 (f.v 6),.int .i64 (f.v 7)]:Array Value)[1 + k]? = some (.int .i64 (f.v k)):=by
 match k,hk with
 | 0,_ | 1,_ | 2,_ | 3,_ | 4,_ | 5,_ | 6,_ | 7,_=>rfl
theorem zxd (s:St) (fv sv ov kv:Value) {k:Nat} (hk:k < 8):(stA s fv sv ov kv)[8 + k]? = some (.int .i64 (s.k.star k)):=by
 match k,hk with
 | 0,_ | 1,_ | 2,_ | 3,_ | 4,_ | 5,_ | 6,_ | 7,_=>rfl
theorem zpf (s:St) (fv sv ov kv:Value) (b k:Nat) (hk:k < 8) (hr:s.r = (k:Int) + 1) (f:Fr) (u:Value) (w:World) (hO:Own w b (stA s fv sv ov kv) 43) (hT:TxW w f.ids u) :
   Calls Tryz.prog 83 #[frV f u,.pointer (some ⟨b,0,none⟩)] w fun e w'=>e = .returned (.bool (zea s k f)) ∧ Below w.heap.size w w':=by
 obtain ⟨ou,cu,rfl⟩:=hT.val
 have OX:=y30h (Own.new w #[.slice ou f.ids.length cu,.int .i64 (f.v 0),.int .i64 (f.v 1),.int .i64 (f.v 2),.int .i64 (f.v 3),.int .i64 (f.v 4),.int .i64 (f.v 5),.int .i64 (f.v 6),.int .i64 (f.v 7)] 105)
 have OS:=y30h (hO.alloc (.cells #[.slice ou f.ids.length cu,.int .i64 (f.v 0),.int .i64 (f.v 1),.int .i64 (f.v 2),.int .i64 (f.v 3),.int .i64 (f.v 4),.int .i64 (f.v 5),.int .i64 (f.v 6),.int .i64 (f.v 7)] 105))
 have BE:=y30h ((Below.refl w.heap.size w).alloc (Nat.le_refl _) (.cells #[.slice ou f.ids.length cu,.int .i64 (f.v 0),.int .i64 (f.v 1),.int .i64 (f.v 2),.int .i64 (f.v 3),.int .i64 (f.v 4),.int .i64 (f.v 5),.int .i64 (f.v 6),.int .i64 (f.v 7)] 105))
 have LX:=fun dd os=>(OX.out.has.regrown dd os (1 + k)).trans (zz3 f _ hk)
 have LS:=fun dd os=>(OS.out.has.regrown dd os 0).trans (show _ = some (Value.int .i64 ((k:Int) + 1)) from by rw [← hr];rfl)
 have LT:=fun dd os=>(OS.out.has.regrown dd os 17).trans (show _ = some (Value.int .i64 s.count) from rfl)
 have zx:=OX.out.lt
 have zs:=OS.out.lt
 unfold zea
 have k0:(0:Int) ≤ (k:Int):=by omega
 have k1:(k:Int) < 8:=by omega
 have k2:(k:Int) + 1 - 1 = k:=by omega
 clear hO hT hr
 generalize f.v k = fk at *
 go_enter Tryz.func83,Tryz.ntmps83
 go_wp2_with fail
 refine wp_region_quiet_below (by kernel_rfl) (by kernel_rfl) ?_
 repeat (first | go_big_quiet_step (fail) | quiet_step (fail))
 refine wpQuiet_nil ?_
 intro w7 hw'
 have hb7:=zac hw'
 clear hw' LX LS LT
 go_wp2_with fail
 go_ret
 exact ⟨rfl,BE.out.trans (hb7.mono BE.out.size)⟩
theorem ze9 {P:Itm → Bool} {l:List Itm} {k:Nat} {f:Itm} (hf:l[k]? = some f) (h:(l.take k).any P = false) (hs:P f = false):(l.take (k + 1)).any P = false:=by
 rw [zd9 hf,List.any_append,h];simp [hs]
def FstI (P:Itm → Bool) (l:List Itm) (n:Int):Prop:=(∃ (k:Nat) (x:Itm),l[k]? = some x ∧ P x = true ∧ n = k ∧ (l.take k).any P = false) ∨ (n = -1 ∧ l.any P = false)
theorem FstI.any {P:Itm → Bool} {l:List Itm} {n:Int} (h:FstI P l n):decide (0 ≤ n) = l.any P:=by
 rcases h with ⟨k,x,hx,hp,rfl,_⟩ | ⟨rfl,h⟩
 · rw [List.any_eq_true.2 ⟨x,List.mem_of_getElem? hx,hp⟩];simp
 · rw [h];rfl
def zm3 (P:Itm → Bool) (l:List Itm) (n:Nat) (w0:World) (i:Value) (wr:World):Prop:=∃ k:Nat,k ≤ n ∧ i = .int .i64 k ∧ Hid ((l.take k).any P = false) ∧ Hid (Below w0.heap.size w0 wr)
theorem zij (P:Itm → Bool) (l:List Itm) (v:Value) (bx:Nat) (w:World) (hR:Row 8 ic w l v) (C:∀ w',Below w.heap.size w w' → ∀ x ∈ l,Calls Tryz.prog 74 #[iV x,.pointer (some ⟨bx,0,none⟩)] w' fun e w''=>e = .returned (.bool (P x)) ∧ Below w'.heap.size w' w'') :
   Calls Tryz.prog 104 #[v,.func (Fn.func 74) #[] #[.pointer (some ⟨bx,0,none⟩)]] w fun e w'=>∃ n:Int,e = .returned (.int .i64 n) ∧ FstI P l n ∧ Below w.heap.size w w':=by
 obtain ⟨oa,cap,b,o,rfl,hF⟩:=hR
 have h1:=hF.len
 have h2:=hF.max
 unfold maxLen at h2
 have HF:=y30h hF
 have HC:=y30h C
 clear hF C
 generalize hn:l.length = n at *
 have HN:=y30h hn
 clear hn
 go_enter Tryz.func104,Tryz.ntmps104
 go_wp2_with fail
 go_loopw [8] (fun i wr=>zm3 P l n w i wr) (fun i _=>n - (intOf i).toNat)
 case atStart=>exact ⟨0,Nat.zero_le _,rfl,by simp [Hid],y30h (Below.refl _ _)⟩
 case round =>
   obtain ⟨k,hk,rfl,HS,HB⟩:=hrel
   by_cases hlt:k < n
   · obtain ⟨x,hx⟩:∃ x,l[k]? = some x:=⟨_,List.getElem?_eq_getElem (by rw [HN.out];exact hlt)⟩
     obtain ⟨rfl,hb⟩:=HF.out.at0 (by rw [HN.out];omega)
     obtain ⟨c0,c1,c2,c3,c4,c5,c6,c7⟩:=za0 (w:=wr) (fun j u hu=>(HB.out.cell (p:=⟨b,o + k * 8 + j,none⟩) hb).trans (HF.out.cell k x hx j u hu))
     have zb:b < wr.heap.size:=Nat.lt_of_lt_of_le hb HB.out.size
     have CC:=y30h (HC.out wr HB.out x (List.mem_of_getElem? hx))
     have HX:=y30h hx
     clear hx
     cases hs:P x
     · rw [hs] at CC
       have HY:=y30h (ze9 HX.out HS.out hs)
       clear HS
       go_wp2_with (go_at_call 74;refine CC.out.mono ?_;rintro e w' ⟨rfl,hb'⟩)
       go_roundw
       case rel=>exact ⟨k + 1,by omega,by go_num,HY,y30h (HB.out.trans (hb'.mono HB.out.size))⟩
       case measure=>simp [intOf];omega
     · rw [hs] at CC
       have HY:=y30h hs
       go_wp2_with (go_at_call 74;refine CC.out.mono ?_;rintro e w' ⟨rfl,hb'⟩)
       go_ret
       exact ⟨_,rfl,.inl ⟨k,x,HX.out,HY.out,rfl,HS.out⟩,HB.out.trans (hb'.mono HB.out.size)⟩
   · have h:=HS.out
     rw [List.take_of_length_le (by rw [HN.out];omega)] at h
     have HY:=y30h h
     clear h HS
     go_wp2_with fail
     go_ret
     exact ⟨_,rfl,.inr ⟨rfl,HY.out⟩,HB.out⟩
theorem zgb (P:Itm → Bool) (l:List Itm) (v:Value) (bx:Nat) (w:World) (hR:Row 8 ic w l v) (C:∀ w',Below w.heap.size w w' → ∀ x ∈ l,Calls Tryz.prog 74 #[iV x,.pointer (some ⟨bx,0,none⟩)] w' fun e w''=>e = .returned (.bool (P x)) ∧ Below w'.heap.size w' w'') :
   Calls Tryz.prog 77 #[v,.func (Fn.func 74) #[] #[.pointer (some ⟨bx,0,none⟩)]] w fun e w'=>e = .returned (.bool (l.any P)) ∧ Below w.heap.size w w':=by
 have D:=y30h (zij P l v bx w hR C)
 obtain ⟨oa,cap,rfl⟩:=hR.val
 clear hR C
 go_enter Tryz.func77,Tryz.ntmps77
 go_wp2_with (go_at_call 104;refine D.out.mono ?_;rintro e w' ⟨n,rfl,hn,hb⟩)
 go_ret
 have hn:=hn.any
 first | exact ⟨zaa hn,hb⟩ | exact ⟨rfl,hb⟩
theorem zik (P:Itm → Bool) (l:List Itm) (v:Value) (bx:Nat) (w:World) (hR:Row 8 ic w l v) (C:∀ w',Below w.heap.size w w' → ∀ x ∈ l,Calls Tryz.prog 76 #[iV x,.pointer (some ⟨bx,0,none⟩)] w' fun e w''=>e = .returned (.bool (P x)) ∧ Below w'.heap.size w' w'') :
   Calls Tryz.prog 104 #[v,.func (Fn.func 76) #[] #[.pointer (some ⟨bx,0,none⟩)]] w fun e w'=>∃ n:Int,e = .returned (.int .i64 n) ∧ FstI P l n ∧ Below w.heap.size w w':=by
 obtain ⟨oa,cap,b,o,rfl,hF⟩:=hR
 have h1:=hF.len
 have h2:=hF.max
 unfold maxLen at h2
 have HF:=y30h hF
 have HC:=y30h C
 clear hF C
 generalize hn:l.length = n at *
 have HN:=y30h hn
 clear hn
 go_enter Tryz.func104,Tryz.ntmps104
 go_wp2_with fail
 go_loopw [8] (fun i wr=>zm3 P l n w i wr) (fun i _=>n - (intOf i).toNat)
 case atStart=>exact ⟨0,Nat.zero_le _,rfl,by simp [Hid],y30h (Below.refl _ _)⟩
 case round =>
   obtain ⟨k,hk,rfl,HS,HB⟩:=hrel
   by_cases hlt:k < n
   · obtain ⟨x,hx⟩:∃ x,l[k]? = some x:=⟨_,List.getElem?_eq_getElem (by rw [HN.out];exact hlt)⟩
     obtain ⟨rfl,hb⟩:=HF.out.at0 (by rw [HN.out];omega)
     obtain ⟨c0,c1,c2,c3,c4,c5,c6,c7⟩:=za0 (w:=wr) (fun j u hu=>(HB.out.cell (p:=⟨b,o + k * 8 + j,none⟩) hb).trans (HF.out.cell k x hx j u hu))
     have zb:b < wr.heap.size:=Nat.lt_of_lt_of_le hb HB.out.size
     have CC:=y30h (HC.out wr HB.out x (List.mem_of_getElem? hx))
     have HX:=y30h hx
     clear hx
     cases hs:P x
     · rw [hs] at CC
       have HY:=y30h (ze9 HX.out HS.out hs)
       clear HS
       go_wp2_with (go_at_call 76;refine CC.out.mono ?_;rintro e w' ⟨rfl,hb'⟩)
       go_roundw
       case rel=>exact ⟨k + 1,by omega,by go_num,HY,y30h (HB.out.trans (hb'.mono HB.out.size))⟩
       case measure=>simp [intOf];omega
     · rw [hs] at CC
       have HY:=y30h hs
       go_wp2_with (go_at_call 76;refine CC.out.mono ?_;rintro e w' ⟨rfl,hb'⟩)
       go_ret
       exact ⟨_,rfl,.inl ⟨k,x,HX.out,HY.out,rfl,HS.out⟩,HB.out.trans (hb'.mono HB.out.size)⟩
   · have h:=HS.out
     rw [List.take_of_length_le (by rw [HN.out];omega)] at h
     have HY:=y30h h
     clear h HS
     go_wp2_with fail
     go_ret
     exact ⟨_,rfl,.inr ⟨rfl,HY.out⟩,HB.out⟩
theorem zgc (P:Itm → Bool) (l:List Itm) (v:Value) (bx:Nat) (w:World) (hR:Row 8 ic w l v) (C:∀ w',Below w.heap.size w w' → ∀ x ∈ l,Calls Tryz.prog 76 #[iV x,.pointer (some ⟨bx,0,none⟩)] w' fun e w''=>e = .returned (.bool (P x)) ∧ Below w'.heap.size w' w'') :
   Calls Tryz.prog 77 #[v,.func (Fn.func 76) #[] #[.pointer (some ⟨bx,0,none⟩)]] w fun e w'=>e = .returned (.bool (l.any P)) ∧ Below w.heap.size w w':=by
 have D:=y30h (zik P l v bx w hR C)
 obtain ⟨oa,cap,rfl⟩:=hR.val
 clear hR C
 go_enter Tryz.func77,Tryz.ntmps77
 go_wp2_with (go_at_call 104;refine D.out.mono ?_;rintro e w' ⟨n,rfl,hn,hb⟩)
 go_ret
 have hn:=hn.any
 first | exact ⟨zaa hn,hb⟩ | exact ⟨rfl,hb⟩
theorem zht (P:Itm → Bool) (l:List Itm) (v:Value) (bx:Nat) (w:World) (hR:Row 8 ic w l v) (C:∀ w',Below w.heap.size w w' → ∀ x ∈ l,Calls Tryz.prog 82 #[iV x,.pointer (some ⟨bx,0,none⟩)] w' fun e w''=>e = .returned (.bool (P x)) ∧ Below w'.heap.size w' w'') :
   Calls Tryz.prog 104 #[v,.func (Fn.func 82) #[] #[.pointer (some ⟨bx,0,none⟩)]] w fun e w'=>∃ n:Int,e = .returned (.int .i64 n) ∧ FstI P l n ∧ Below w.heap.size w w':=by
 obtain ⟨oa,cap,b,o,rfl,hF⟩:=hR
 have h1:=hF.len
 have h2:=hF.max
 unfold maxLen at h2
 have HF:=y30h hF
 have HC:=y30h C
 clear hF C
 generalize hn:l.length = n at *
 have HN:=y30h hn
 clear hn
 go_enter Tryz.func104,Tryz.ntmps104
 go_wp2_with fail
 go_loopw [8] (fun i wr=>zm3 P l n w i wr) (fun i _=>n - (intOf i).toNat)
 case atStart=>exact ⟨0,Nat.zero_le _,rfl,by simp [Hid],y30h (Below.refl _ _)⟩
 case round =>
   obtain ⟨k,hk,rfl,HS,HB⟩:=hrel
   by_cases hlt:k < n
   · obtain ⟨x,hx⟩:∃ x,l[k]? = some x:=⟨_,List.getElem?_eq_getElem (by rw [HN.out];exact hlt)⟩
     obtain ⟨rfl,hb⟩:=HF.out.at0 (by rw [HN.out];omega)
     obtain ⟨c0,c1,c2,c3,c4,c5,c6,c7⟩:=za0 (w:=wr) (fun j u hu=>(HB.out.cell (p:=⟨b,o + k * 8 + j,none⟩) hb).trans (HF.out.cell k x hx j u hu))
     have zb:b < wr.heap.size:=Nat.lt_of_lt_of_le hb HB.out.size
     have CC:=y30h (HC.out wr HB.out x (List.mem_of_getElem? hx))
     have HX:=y30h hx
     clear hx
     cases hs:P x
     · rw [hs] at CC
       have HY:=y30h (ze9 HX.out HS.out hs)
       clear HS
       go_wp2_with (go_at_call 82;refine CC.out.mono ?_;rintro e w' ⟨rfl,hb'⟩)
       go_roundw
       case rel=>exact ⟨k + 1,by omega,by go_num,HY,y30h (HB.out.trans (hb'.mono HB.out.size))⟩
       case measure=>simp [intOf];omega
     · rw [hs] at CC
       have HY:=y30h hs
       go_wp2_with (go_at_call 82;refine CC.out.mono ?_;rintro e w' ⟨rfl,hb'⟩)
       go_ret
       exact ⟨_,rfl,.inl ⟨k,x,HX.out,HY.out,rfl,HS.out⟩,HB.out.trans (hb'.mono HB.out.size)⟩
   · have h:=HS.out
     rw [List.take_of_length_le (by rw [HN.out];omega)] at h
     have HY:=y30h h
     clear h HS
     go_wp2_with fail
     go_ret
     exact ⟨_,rfl,.inr ⟨rfl,HY.out⟩,HB.out⟩
theorem zdk (P:Itm → Bool) (l:List Itm) (v:Value) (bx:Nat) (w:World) (hR:Row 8 ic w l v) (C:∀ w',Below w.heap.size w w' → ∀ x ∈ l,Calls Tryz.prog 82 #[iV x,.pointer (some ⟨bx,0,none⟩)] w' fun e w''=>e = .returned (.bool (P x)) ∧ Below w'.heap.size w' w'') :
   Calls Tryz.prog 77 #[v,.func (Fn.func 82) #[] #[.pointer (some ⟨bx,0,none⟩)]] w fun e w'=>e = .returned (.bool (l.any P)) ∧ Below w.heap.size w w':=by
 have D:=y30h (zht P l v bx w hR C)
 obtain ⟨oa,cap,rfl⟩:=hR.val
 clear hR C
 go_enter Tryz.func77,Tryz.ntmps77
 go_wp2_with (go_at_call 104;refine D.out.mono ?_;rintro e w' ⟨n,rfl,hn,hb⟩)
 go_ret
 have hn:=hn.any
 first | exact ⟨zaa hn,hb⟩ | exact ⟨rfl,hb⟩
theorem zj2 (P:Itm → Bool) (l:List Itm) (v:Value) (w:World) (hR:Row 8 ic w l v) (C:∀ w',Below w.heap.size w w' → ∀ x ∈ l,Calls Tryz.prog 57 #[iV x] w' fun e w''=>e = .returned (.bool (P x)) ∧ Below w'.heap.size w' w'') :
   Calls Tryz.prog 104 #[v,.func (Fn.func 57) #[] #[]] w fun e w'=>∃ n:Int,e = .returned (.int .i64 n) ∧ FstI P l n ∧ Below w.heap.size w w':=by
 obtain ⟨oa,cap,b,o,rfl,hF⟩:=hR
 have h1:=hF.len
 have h2:=hF.max
 unfold maxLen at h2
 have HF:=y30h hF
 have HC:=y30h C
 clear hF C
 generalize hn:l.length = n at *
 have HN:=y30h hn
 clear hn
 go_enter Tryz.func104,Tryz.ntmps104
 go_wp2_with fail
 go_loopw [8] (fun i wr=>zm3 P l n w i wr) (fun i _=>n - (intOf i).toNat)
 case atStart=>exact ⟨0,Nat.zero_le _,rfl,by simp [Hid],y30h (Below.refl _ _)⟩
 case round =>
   obtain ⟨k,hk,rfl,HS,HB⟩:=hrel
   by_cases hlt:k < n
   · obtain ⟨x,hx⟩:∃ x,l[k]? = some x:=⟨_,List.getElem?_eq_getElem (by rw [HN.out];exact hlt)⟩
     obtain ⟨rfl,hb⟩:=HF.out.at0 (by rw [HN.out];omega)
     obtain ⟨c0,c1,c2,c3,c4,c5,c6,c7⟩:=za0 (w:=wr) (fun j u hu=>(HB.out.cell (p:=⟨b,o + k * 8 + j,none⟩) hb).trans (HF.out.cell k x hx j u hu))
     have zb:b < wr.heap.size:=Nat.lt_of_lt_of_le hb HB.out.size
     have CC:=y30h (HC.out wr HB.out x (List.mem_of_getElem? hx))
     have HX:=y30h hx
     clear hx
     cases hs:P x
     · rw [hs] at CC
       have HY:=y30h (ze9 HX.out HS.out hs)
       clear HS
       go_wp2_with (go_at_call 57;refine CC.out.mono ?_;rintro e w' ⟨rfl,hb'⟩)
       go_roundw
       case rel=>exact ⟨k + 1,by omega,by go_num,HY,y30h (HB.out.trans (hb'.mono HB.out.size))⟩
       case measure=>simp [intOf];omega
     · rw [hs] at CC
       have HY:=y30h hs
       go_wp2_with (go_at_call 57;refine CC.out.mono ?_;rintro e w' ⟨rfl,hb'⟩)
       go_ret
       exact ⟨_,rfl,.inl ⟨k,x,HX.out,HY.out,rfl,HS.out⟩,HB.out.trans (hb'.mono HB.out.size)⟩
   · have h:=HS.out
     rw [List.take_of_length_le (by rw [HN.out];omega)] at h
     have HY:=y30h h
     clear h HS
     go_wp2_with fail
     go_ret
     exact ⟨_,rfl,.inr ⟨rfl,HY.out⟩,HB.out⟩
theorem zi7 (P:Fr → Bool) (l:List Fr) (v:Value) (bx:Nat) (w:World) (hR:FrW w l v) (C:∀ w',Below w.heap.size w w' → ∀ (k:Nat) (f:Fr) (u:Value),l[k]? = some f → TxW w' f.ids u → Calls Tryz.prog 83 #[frV f u,.pointer (some ⟨bx,0,none⟩)] w' fun e w''=>e = .returned (.bool (P f)) ∧ Below w'.heap.size w' w'') :
   Calls Tryz.prog 108 #[v,.func (Fn.func 83) #[] #[.pointer (some ⟨bx,0,none⟩)]] w fun e w'=>∃ n:Int,e = .returned (.int .i64 n) ∧ decide (0 ≤ n) = l.any P ∧ Below w.heap.size w w':=by
 obtain ⟨U,oa,cap,b,o,rfl,hF⟩:=hR
 have h1:=hF.len
 have h2:=hF.max
 unfold maxLen at h2
 have HF:=y30h hF
 have HC:=y30h C
 clear hF C
 generalize hn:l.length = n at *
 have HN:=y30h hn
 clear hn
 go_enter Tryz.func108,Tryz.ntmps108
 go_wp2_with fail
 go_loopw [8] (fun i wr=>zq7 P l n w i wr) (fun i _=>n - (intOf i).toNat)
 case atStart=>exact ⟨0,Nat.zero_le _,rfl,by simp [Hid],y30h (Below.refl _ _)⟩
 case round =>
   obtain ⟨k,hk,rfl,HS,HB⟩:=hrel
   by_cases hlt:k < n
   · obtain ⟨f,hf⟩:∃ f,l[k]? = some f:=⟨_,List.getElem?_eq_getElem (by rw [HN.out];exact hlt)⟩
     obtain ⟨rfl,hb⟩:=HF.out.at0 (by rw [HN.out];omega)
     have FL:=HF.out.later HB.out (Nat.le_refl _)
     obtain ⟨c0,c1,c2,c3,c4,c5,c6,c7,c8⟩:=zbd (w:=wr) (fun j u hu=>FL.cell k f hf j u hu)
     have zb:b < wr.heap.size:=Nat.lt_of_lt_of_le hb HB.out.size
     have CC:=y30h (HC.out wr HB.out k f (U k) hf (FL.ids k f hf))
     have HX:=y30h hf
     obtain ⟨ou,cu,hU⟩:=(HF.out.ids k f hf).val
     rw [hU] at c0 CC
     clear FL hf hU
     cases hs:P f
     · rw [hs] at CC
       have HY:=y30h (zhi HX.out HS.out hs)
       clear HS
       go_wp2_with (go_at_call 83;refine CC.out.mono ?_;rintro e w' ⟨rfl,hb'⟩)
       go_roundw
       case rel=>exact ⟨k + 1,by omega,by go_num,HY,y30h (HB.out.trans (hb'.mono HB.out.size))⟩
       case measure=>simp [intOf];omega
     · rw [hs] at CC
       have HY:=y30h (ziw HX.out hs)
       clear HS
       go_wp2_with (go_at_call 83;refine CC.out.mono ?_;rintro e w' ⟨rfl,hb'⟩)
       go_ret
       exact ⟨_,rfl,by rw [HY.out];simp,HB.out.trans (hb'.mono HB.out.size)⟩
   · have h:=HS.out
     rw [List.take_of_length_le (by rw [HN.out];omega)] at h
     have HY:=y30h h
     clear h HS
     go_wp2_with fail
     go_ret
     exact ⟨_,rfl,by rw [HY.out];simp,HB.out⟩
theorem zhg (P:Fr → Bool) (l:List Fr) (v:Value) (bx:Nat) (w:World) (hR:FrW w l v) (C:∀ w',Below w.heap.size w w' → ∀ (k:Nat) (f:Fr) (u:Value),l[k]? = some f → TxW w' f.ids u → Calls Tryz.prog 83 #[frV f u,.pointer (some ⟨bx,0,none⟩)] w' fun e w''=>e = .returned (.bool (P f)) ∧ Below w'.heap.size w' w'') :
   Calls Tryz.prog 61 #[v,.func (Fn.func 83) #[] #[.pointer (some ⟨bx,0,none⟩)]] w fun e w'=>e = .returned (.bool (l.any P)) ∧ Below w.heap.size w w':=by
 have D:=y30h (zi7 P l v bx w hR C)
 obtain ⟨oa,cap,rfl⟩:=hR.val
 clear hR C
 go_enter Tryz.func61,Tryz.ntmps61
 go_wp2_with (go_at_call 108;refine D.out.mono ?_;rintro e w' ⟨n,rfl,hn,hb⟩)
 go_ret
 first | exact ⟨zaa hn,hb⟩ | exact ⟨rfl,hb⟩
theorem zy0 (l:List Fr):(!(l.any oddB)) = l.all (zfl zaz):=by
 rw [List.not_any_eq_all_not]
 congr 1
 funext f
 unfold oddB zfl
 rw [Bool.not_or,Bool.not_not,List.not_any_eq_all_not]
 congr 1
 congr 1
 funext s
 rw [Bool.not_not]
theorem zmo (nm:ByteArray → Bool) (hnm:nm = zaz) (a:Kn) (v:Value) (w:World) (hR:FrW w a.l v) (hl1:(zaf a.l).length ≤ 10000) :
   Calls Tryz.prog 38 #[knV a.star v] w fun e w'=>e = .returned (.bool (mayK nm a)) ∧ Below w.heap.size w w':=by
 subst hnm
 obtain ⟨ov,cv,rfl⟩:=hR.val
 have OA:=y30h (Own.newAt w (knA a.star (.slice ov a.l.length cv)) 31 (b:=w.heap.size) (by first | rfl | simp)).has
 have BEL:=y30h ((Below.refl w.heap.size w).alloc (by first | exact Nat.le_refl _ | (simp;omega) | simp) (.cells (knA a.star (.slice ov a.l.length cv)) 31))
 have LA:=y30h (hR.later BEL.out (Nat.le_refl _))
 have PA:=fun w' h=>y30h (zdp a (.slice ov a.l.length cv) w' h hl1)
 have EQ:=fun va vb w' h h'=>y30h (show Calls Tryz.prog 80 #[knV a.star va,knV a.star vb] w' (fun e w''=>e = .returned (.bool (zby a (zai a))) ∧ Below w'.heap.size w' w'') from zod a (zai a) va vb w' h h')
 have MV:=fun w'=>y30h (zh8 a.star w')
 have CD:=fun w' h=>y30h (zjt oddB a.l (.slice ov a.l.length cv) w' h fun w' hb k f u hf hu=>zue f u w' hu)
 have e:mayK zaz a = ((mayV a.star && !(a.l.any oddB)) && zby a (zai a)):=by
   unfold mayK
   rw [zy0]
   cases mayV a.star <;> cases zby a (zai a) <;> cases a.l.all (zfl zaz) <;> rfl
 rw [e]
 clear e hR hl1
 generalize zby a (zai a) = al at *
 generalize (zai a).l = ra at *
 generalize a.l.length = len at *
 generalize a.l.any oddB = od at *
 cases hm:mayV a.star
 · rw [hm] at MV
   go_enter Tryz.func38,Tryz.ntmps38
   go_wp2_with fail
   replace OA:=y30h (OA.out.drew)
   replace BEL:=y30h (BEL.out.drew)
   have l1:=OA.out.cell
   have z1:=OA.out.lt
   first | (go_region_law (first
       | (go_simp;go_at_call 78;refine (MV _).out.mono ?_;rintro e wa ⟨rfl,hb⟩;have BELa:=y30h (BEL.out.trans (hb.mono BEL.out.size));clear hb)
       | fail)) | fail
   all_goals
     go_wp2_with fail
     go_ret
     exact ⟨rfl,BELa.out⟩
 · rw [hm] at MV
   cases hod:od
   · subst hod
     go_enter Tryz.func38,Tryz.ntmps38
     go_wp2_with fail
     replace OA:=y30h (OA.out.drew)
     replace LA:=y30h (LA.out.later (Below.refl _ _).drew (Nat.le_refl _))
     replace BEL:=y30h (BEL.out.drew)
     first | (go_region_held3 (fun w'=>∀ o,w'.cell? ⟨w.heap.size,o,none⟩ = (knA a.star (.slice ov len cv))[o]?) (exact OA.out.cell) (first
         | (go_simp;go_at_call 78;refine (MV _).out.mono ?_;rintro e wa ⟨rfl,hb⟩;replace OA:=y30h (OA.out.below hb OA.out.lt);replace LA:=y30h (LA.out.later hb (Nat.le_refl _));replace BEL:=y30h (BEL.out.trans (hb.mono BEL.out.size));clear hb)
         | (go_simp;go_at_call 61;refine (CD _ LA.out).out.mono ?_;rintro e wb ⟨rfl,hb⟩;replace OA:=y30h (OA.out.below hb OA.out.lt);replace LA:=y30h (LA.out.later hb (Nat.le_refl _));replace BEL:=y30h (BEL.out.trans (hb.mono BEL.out.size));clear hb)
         | (go_simp;go_at_call 81;refine (PA _ LA.out).out.mono ?_;rintro e wc ⟨va,rfl,hfa,hb⟩;obtain ⟨oa,ca,rfl⟩:=hfa.fr.val;have FA:=y30h hfa.fr;replace OA:=y30h (OA.out.below hb OA.out.lt);replace LA:=y30h (LA.out.later hb (Nat.le_refl _));replace BEL:=y30h (BEL.out.trans (hb.mono BEL.out.size));clear hb hfa)
         | (go_simp;go_at_call 80;refine (EQ _ _ _ LA.out FA.out).out.mono ?_;rintro e wd ⟨rfl,hb⟩;replace OA:=y30h (OA.out.below hb OA.out.lt);replace BEL:=y30h (BEL.out.trans (hb.mono BEL.out.size));clear hb)
         | fail)) | fail
     all_goals
       go_wp2_with fail
       go_ret
       exact ⟨rfl,BEL.out⟩
   · subst hod
     go_enter Tryz.func38,Tryz.ntmps38
     go_wp2_with fail
     replace OA:=y30h (OA.out.drew)
     replace LA:=y30h (LA.out.later (Below.refl _ _).drew (Nat.le_refl _))
     replace BEL:=y30h (BEL.out.drew)
     have l1:=OA.out.cell
     have z1:=OA.out.lt
     first | (go_region_law (first
         | (go_simp;go_at_call 78;refine (MV _).out.mono ?_;rintro e wa ⟨rfl,hb⟩;have OAa:=y30h (OA.out.below hb OA.out.lt);have LAa:=y30h (LA.out.later hb (Nat.le_refl _));have BELa:=y30h (BEL.out.trans (hb.mono BEL.out.size));have la:=OAa.out.cell;have za:=OAa.out.lt;clear hb)
         | (go_simp;go_at_call 61;refine (CD _ LAa.out).out.mono ?_;rintro e wb ⟨rfl,hb⟩;have BELb:=y30h (BELa.out.trans (hb.mono BELa.out.size));clear hb)
         | fail)) | fail
     all_goals
       go_wp2_with fail
       go_ret
       exact ⟨rfl,BELb.out⟩
end Go.Proofs.YthnllikalobmeaaGreat
