/- Joined: KnowW, RefKnow1, RefNames, RefBey. -/
import Derived.Test.YthnllikalobmeaaGreatJ08
import Derived.Test.YthnllikalobmeaaGreatJ01
import Derived.Deep.CutBlock
import Derived.Deep.DeepCutAuto
import Derived.Test.YthnllikalobmeaaGreatJ03
namespace Go.Proofs.YthnllikalobmeaaGreat
set_option linter.unusedVariables false
set_option linter.unusedSimpArgs false
set_option maxRecDepth 100000
set_option maxHeartbeats 8000000
open Go.RowKit
theorem y09h {p:Prop} (h:p):Hid p:=Lib.hid h
structure TxAt (w:World) (l:List ByteArray) (oa:Option Addr) (cap b o:Nat):Prop where
 len:l.length ≤ cap
 max:cap ≤ maxLen
 at0:0 < l.length → oa = some ⟨b,o,none⟩ ∧ b < w.heap.size
 cell:∀ k s,l[k]? = some s → w.cell? ⟨b,o + k,none⟩ = some (.string s)
 ok:∀ s ∈ l,s.size ≤ maxLen
def TxW (w:World) (l:List ByteArray) (v:Value):Prop:=∃ oa cap b o,v = .slice oa l.length cap ∧ TxAt w l oa cap b o
theorem posA {α:Type} {l:List α} {k:Nat} {a:α} (h:l[k]? = some a):k < l.length:=(List.getElem?_eq_some_iff.1 h).1
theorem TxAt.later {w w':World} {l:List ByteArray} {oa:Option Addr} {cap b o B:Nat} (h:TxAt w l oa cap b o) (hb:Below B w w') (hB:w.heap.size ≤ B):TxAt w' l oa cap b o:=by
 refine ⟨h.len,h.max,fun h0=>⟨(h.at0 h0).1,Nat.lt_of_lt_of_le (h.at0 h0).2 hb.size⟩,fun k s hk=>?_,h.ok⟩
 have hlt:b < w.heap.size:=(h.at0 (by have:=posA hk;omega)).2
 exact (hb.cell (p:=⟨b,o + k,none⟩) (by show b < B;omega)).trans (h.cell k s hk)
theorem TxW.later {w w':World} {l:List ByteArray} {v:Value} {B:Nat} (h:TxW w l v) (hb:Below B w w') (hB:w.heap.size ≤ B):TxW w' l v:=by
 obtain ⟨oa,cap,b,o,e,h⟩:=h
 exact ⟨oa,cap,b,o,e,h.later hb hB⟩
theorem TxW.val {w:World} {l:List ByteArray} {v:Value} (h:TxW w l v):∃ oa cap,v = .slice oa l.length cap:=by
 obtain ⟨oa,cap,_,_,e,_⟩:=h
 exact ⟨oa,cap,e⟩
theorem TxW.ok {w:World} {l:List ByteArray} {v:Value} (h:TxW w l v):∀ s ∈ l,s.size ≤ maxLen:=by
 obtain ⟨_,_,_,_,_,h⟩:=h
 exact h.ok
abbrev fc (f:Fr) (u:Value):List Value:=[u,.int .i64 (f.v 0),.int .i64 (f.v 1),.int .i64 (f.v 2),.int .i64 (f.v 3),.int .i64 (f.v 4),.int .i64 (f.v 5),.int .i64 (f.v 6),.int .i64 (f.v 7)]
structure FrAt (w:World) (l:List Fr) (U:Nat → Value) (oa:Option Addr) (cap b o:Nat):Prop where
 len:l.length ≤ cap
 max:cap ≤ maxLen
 at0:0 < l.length → oa = some ⟨b,o,none⟩ ∧ b < w.heap.size
 cell:∀ k f,l[k]? = some f → ∀ j u,(fc f (U k))[j]? = some u → w.cell? ⟨b,o + k * 9 + j,none⟩ = some u
 ids:∀ k f,l[k]? = some f → TxW w f.ids (U k)
def FrW (w:World) (l:List Fr) (v:Value):Prop:=∃ U oa cap b o,v = .slice oa l.length cap ∧ FrAt w l U oa cap b o
theorem FrAt.later {w w':World} {l:List Fr} {U:Nat → Value} {oa:Option Addr} {cap b o B:Nat} (h:FrAt w l U oa cap b o) (hb:Below B w w') (hB:w.heap.size ≤ B):FrAt w' l U oa cap b o:=by
 refine ⟨h.len,h.max,fun h0=>⟨(h.at0 h0).1,Nat.lt_of_lt_of_le (h.at0 h0).2 hb.size⟩,fun k f hk j u hu=>?_,fun k f hk=>(h.ids k f hk).later hb hB⟩
 have hlt:b < w.heap.size:=(h.at0 (by have:=posA hk;omega)).2
 exact (hb.cell (p:=⟨b,o + k * 9 + j,none⟩) (by show b < B;omega)).trans (h.cell k f hk j u hu)
theorem FrW.later {w w':World} {l:List Fr} {v:Value} {B:Nat} (h:FrW w l v) (hb:Below B w w') (hB:w.heap.size ≤ B):FrW w' l v:=by
 obtain ⟨U,oa,cap,b,o,e,h⟩:=h
 exact ⟨U,oa,cap,b,o,e,h.later hb hB⟩
theorem FrW.val {w:World} {l:List Fr} {v:Value} (h:FrW w l v):∃ oa cap,v = .slice oa l.length cap:=by
 obtain ⟨_,oa,cap,_,_,e,_⟩:=h
 exact ⟨oa,cap,e⟩
theorem za6 {w:World} {f:Fr} {u:Value} {b o:Nat} (h:∀ j z,(fc f u)[j]? = some z → w.cell? ⟨b,o + j,none⟩ = some z) :
   w.cell? ⟨b,o,none⟩ = some u ∧ w.cell? ⟨b,o + 1,none⟩ = some (.int .i64 (f.v 0)) ∧ w.cell? ⟨b,o + 2,none⟩ = some (.int .i64 (f.v 1)) ∧ w.cell? ⟨b,o + 3,none⟩ = some (.int .i64 (f.v 2)) ∧ w.cell? ⟨b,o + 4,none⟩ = some (.int .i64 (f.v 3)) ∧ w.cell? ⟨b,o + 5,none⟩ = some (.int .i64 (f.v 4)) ∧ w.cell? ⟨b,o + 6,none⟩ = some (.int .i64 (f.v 5)) ∧ w.cell? ⟨b,o + 7,none⟩ = some (.int .i64 (f.v 6)) ∧ w.cell? ⟨b,o + 8,none⟩ = some (.int .i64 (f.v 7)) :=
 ⟨h 0 _ rfl,h 1 _ rfl,h 2 _ rfl,h 3 _ rfl,h 4 _ rfl,h 5 _ rfl,h 6 _ rfl,h 7 _ rfl,h 8 _ rfl⟩
abbrev knV (A:Nat → Int) (v:Value):Value:=.agg #[.int .i64 (A 0),.int .i64 (A 1),.int .i64 (A 2),.int .i64 (A 3),.int .i64 (A 4),.int .i64 (A 5),.int .i64 (A 6),.int .i64 (A 7),v]
abbrev knA (A:Nat → Int) (v:Value):Array Value:=#[.int .i64 (A 0),.int .i64 (A 1),.int .i64 (A 2),.int .i64 (A 3),.int .i64 (A 4),.int .i64 (A 5),.int .i64 (A 6),.int .i64 (A 7),v]
def txC (l:List ByteArray):List Value:=l.map .string
def OwnT (w:World) (base:Nat) (l:List ByteArray) (v:Value):Prop:=w.ownsRow base 9 1 v l.length (txC l)
theorem OwnT.nil (w:World) (base:Nat):OwnT w base [] (.slice none 0 0):=World.ownsRow_nil _ _ _ _
theorem OwnT.later {w w':World} {base:Nat} {l:List ByteArray} {v:Value} (h:OwnT w base l v) (hb:Below w.heap.size w w'):OwnT w' base l v:=zau h hb
theorem OwnT.alloc {w:World} {base:Nat} {l:List ByteArray} {v:Value} (h:OwnT w base l v) (o:Obj):OwnT (w.alloc o) base l v:=h.later ((Below.refl _ _).alloc (Nat.le_refl _) _)
theorem OwnT.mono {w:World} {base base':Nat} {l:List ByteArray} {v:Value} (h:OwnT w base l v) (hb:base' ≤ base):OwnT w base' l v:=by
 obtain ⟨h1,h2⟩:=h
 refine ⟨h1,?_⟩
 rcases h2 with h2 | ⟨g,cap,cur,hv,hg,r⟩
 · exact .inl h2
 · exact .inr ⟨g,cap,cur,hv,Nat.le_trans hb hg,r⟩
theorem OwnT.val {w:World} {base:Nat} {l:List ByteArray} {v:Value} (h:OwnT w base l v):∃ oa cap,v = .slice oa l.length cap:=by
 obtain ⟨oa,cap,g,e,_⟩:=zan h
 exact ⟨oa,cap,e⟩
theorem OwnT.tx {w:World} {base:Nat} {l:List ByteArray} {v:Value} (h:OwnT w base l v) (hok:∀ s ∈ l,s.size ≤ maxLen):TxW w l v:=by
 obtain ⟨oa,cap,g,e,h1,h2,hg⟩:=zan h
 subst e
 refine ⟨oa,cap,g,0,rfl,h1,h2,fun h0=>⟨(hg h0).1,(hg h0).2.2⟩,fun k s hk=>?_,hok⟩
 have hlt:=posA hk
 obtain ⟨rfl,_⟩:=hg (by omega)
 unfold OwnT at h
 rw [Nat.zero_add,h.cellAt k (by omega)]
 simp [txC,hk]
theorem ze7 {w:World} {s:ByteArray} {t:TypeId}:∀ j u,([.string s]:List Value)[j]? = some u → (w.alloc (.cells #[.string s] t)).cell? ((⟨w.heap.size,0,none⟩:Addr).add j) = some u :=
 World.news_of_block (cs:=#[.string s]) (t:=t) (fr:=(0,0)) (heap_alloc_new w _)
theorem oneT (s:ByteArray):∀ u ∈ ([.string s]:List Value),u.oneCell' = true:=by
 intro u hu;simp at hu;subst hu;rfl
theorem OwnT.push {w:World} {base n g cap:Nat} {l:List ByteArray} {s:ByteArray} (h:w.ownsRow base 9 1 (.slice (some ⟨g,0,none⟩) n cap) n (txC l ++ [.string s])) (hn:n = l.length + 1):OwnT w base (l ++ [s]) (.slice (some ⟨g,0,none⟩) n cap):=by
 unfold OwnT
 rw [List.length_append,txC,List.map_append]
 subst hn
 exact h
theorem zck {w0 w w':World} {B base:Nat} {l:List ByteArray} {v:Value} (h:OwnT w base l v) (hb:Below B w0 w) (hB:B ≤ base) (hg:w.grownBy w' v.ownBlock) (hsz:B ≤ w.heap.size):Below B w0 w' :=
 hb.grown hg hsz fun k hk=>by have:=(World.ownsRow.lt h k hk).1;omega
theorem zfv:(Tryz.prog.info? 9).map (fun i=>(i.zero,i.size,i.bytes)) = some (some (.string ⟨#[]⟩),1,16):=by kernel_rfl
theorem zcs:(Tryz.prog.info? 105).map (fun i=>(i.zero,i.size,i.bytes)) = some (some (.agg #[.slice none 0 0,.int .i64 0,.int .i64 0,.int .i64 0,.int .i64 0,.int .i64 0,.int .i64 0,.int .i64 0,.int .i64 0]),9,88):=by kernel_rfl
theorem zdj {α:Type} {l:List α} {k:Nat} {i:α} (h:l[k]? = some i):l.take (k + 1) = l.take k ++ [i]:=by
 obtain ⟨hk,e⟩:=List.getElem?_eq_some_iff.1 h
 rw [List.take_succ_eq_append_getElem hk,e]
theorem zi7 (l:List ByteArray) (s:ByteArray) (v:Value) (w:World) (hR:TxW w l v) :
   Calls Tryz.prog 141 #[v,.string s] w fun e w'=>e = .returned (.bool (za5 l s)) ∧ w = w':=by
 obtain ⟨oa,cap,b,o,rfl,hr⟩:=hR
 have HR:=y09h hr
 have hcap:=hr.len
 have hmax:=hr.max
 unfold maxLen at hmax
 clear hr
 generalize hres:za5 l s = res at *
 have HRES:=y09h hres
 clear hres
 generalize hn:l.length = len at *
 have HN:=y09h hn
 clear hn
 go_enter Tryz.func141,Tryz.ntmps141
 go_wp2_with fail
 go_loopw [5] (fun i wr=>∃ k:Nat,k ≤ len ∧ i = .int .i64 k ∧ Hid (∀ j x,j < k → l[j]? = some x → (x.toList == s.toList) = false) ∧ wr = w) (fun i _=>len - (intOf i).toNat)
 case atStart=>exact ⟨0,Nat.zero_le _,rfl,fun j x hj=>absurd hj (by omega),rfl⟩
 case round =>
   obtain ⟨k,hk,rfl,HS,rfl⟩:=hrel
   by_cases hlt:k < len
   · obtain ⟨x,hx⟩:∃ x,l[k]? = some x:=⟨_,List.getElem?_eq_getElem (by rw [HN.out];exact hlt)⟩
     obtain ⟨rfl,hb0⟩:=HR.out.at0 (by rw [HN.out];omega)
     have c0:=HR.out.cell k x hx
     cases ht:(x.toList == s.toList)
     · have HS2:=y09h (show ∀ j x,j < k + 1 → l[j]? = some x → (x.toList == s.toList) = false from fun j y hj hy=>by
         by_cases e:j = k
         · subst e;rw [hx] at hy;cases hy;exact ht
         · exact HS.out j y (by omega) hy)
       clear hx
       go_wp2_with fail
       go_roundw
       case rel=>exact ⟨k + 1,by omega,by go_num,HS2.out,by first | rfl | trivial⟩
       case measure=>simp [intOf];omega
     · have E:=y09h (show res = true by
         rw [← HRES.out];unfold za5;rw [List.any_eq_true]
         exact ⟨x,List.mem_of_getElem? hx,ht⟩)
       clear hx
       go_wp2_with fail
       go_ret
       exact ⟨zaa E.out.symm,rfl⟩
   · have E:=y09h (show res = false by
       rw [← HRES.out];unfold za5;rw [List.any_eq_false]
       intro x hx
       obtain ⟨j,hj,e⟩:=List.mem_iff_getElem.1 hx
       have:=HS.out j x (by have:=HN.out;omega) (by rw [List.getElem?_eq_getElem hj,e])
       simp [this])
     go_wp2_with fail
     go_ret
     exact ⟨zaa E.out.symm,rfl⟩
def zz9 (l:List ByteArray) (s:ByteArray) (len:Nat) (w:World) (lv pv iv:Value) (wr:World):Prop :=
 ∃ (k:Nat) (sv:Value) (p:Bool),k ≤ len ∧ iv = .int .i64 k ∧ sv = lv ∧ pv = .bool p ∧ Hid (p = (insF s (l.take k)).2) ∧ Hid ((insF s (l.take k)).1.length ≤ k + 1) ∧ Hid (OwnT wr w.heap.size (insF s (l.take k)).1 sv) ∧ Hid (Below w.heap.size w wr)
theorem zuh {s:ByteArray} {l:List ByteArray} {k:Nat} {a:ByteArray} (h:l[k]? = some a):insF s (l.take (k + 1)) = za4 s (insF s (l.take k)) a:=by
 unfold insF;rw [zdj h,List.foldl_append];rfl
theorem zwn (s:ByteArray) (l:List ByteArray):(insF s l).1.length ≤ l.length + (if (insF s l).2 = true then 1 else 0):=by
 have:∀ (l:List ByteArray) (o:List ByteArray × Bool),(l.foldl (za4 s) o).1.length + (if o.2 = true then 1 else 0) ≤ o.1.length + l.length + (if (l.foldl (za4 s) o).2 = true then 1 else 0):=by
   intro l
   induction l with
   | nil=>intro o;obtain ⟨o1,o2⟩:=o;cases o2 <;> simp
   | cons a l ih =>
     intro o
     rw [List.foldl_cons]
     have h1:=ih (za4 s o a)
     have h2:(za4 s o a).1.length + (if o.2 = true then 1 else 0) ≤ o.1.length + 1 + (if (za4 s o a).2 = true then 1 else 0):=by
       unfold za4
       obtain ⟨o1,o2⟩:=o
       cases o2 <;> cases hl:leB s a <;> cases ha:(a.toList == s.toList) <;> simp <;> omega
     simp only [List.length_cons]
     omega
 have:=this l ([],false)
 unfold insF
 simp only [List.length_nil] at this
 simp at this
 omega
theorem zoz (l:List ByteArray) (s:ByteArray) (v:Value) (w:World) (hR:TxW w l v) (hlen:l.length ≤ 10000) :
   Calls Tryz.prog 166 #[v,.string s] w fun e w'=>∃ v',e = .returned v' ∧ OwnT w' w.heap.size (insB l s) v' ∧ Below w.heap.size w w':=by
 obtain ⟨oa,cap,b,o,rfl,hr⟩:=hR
 obtain ⟨i0,hi,hz0,hz1,hz2⟩:=info_parts zfv
 have HR:=y09h hr
 have hcap:=hr.len
 have hmax:=hr.max
 unfold maxLen at hmax
 clear hr
 generalize hn:l.length = len at *
 have HN:=y09h hn
 clear hn
 go_enter Tryz.func166,Tryz.ntmps166
 go_wp2_with fail
 go_loopw [5,6,7] (fun lv pv iv wr=>zz9 l s len w lv pv iv wr) (fun _ _ iv _=>len - (intOf iv).toNat)
 case atStart=>exact ⟨0,_,false,Nat.zero_le _,rfl,rfl,rfl,by simp [Hid,insF],by simp [Hid,insF],by unfold Hid;exact OwnT.nil _ _,Below.refl _ _⟩
 case round =>
   obtain ⟨k,sv,p,hk,rfl,rfl,rfl,HP,HL,HO,HB⟩:=hrel
   by_cases hlt:k < len
   · obtain ⟨a,ha⟩:∃ a,l[k]? = some a:=⟨_,List.getElem?_eq_getElem (by rw [HN.out];exact hlt)⟩
     obtain ⟨rfl,hb0⟩:=HR.out.at0 (by rw [HN.out];omega)
     have c0:=(HB.out.cell (p:=⟨b,o + k,none⟩) hb0).trans (HR.out.cell k a ha)
     have zb:=Nat.lt_of_lt_of_le hb0 HB.out.size
     have zw:=HB.out.size
     have HF:=y09h (zuh (s:=s) ha)
     have HLN:=y09h (Nat.le_trans (zwn s (l.take (k + 1))) (show _ ≤ k + 1 + 1 by rw [List.length_take];split <;> omega))
     have hlk:=HL.out
     have HA:=y09h ha
     clear ha
     generalize hO:(insF s (l.take k)).1 = out at *
     have HFE:=y09h (show insF s (l.take (k + 1)) = za4 s (out,p) a by rw [HF.out,← hO,HP.out])
     have HK:=y09h HL.out
     clear hO HF HP HL
     cases hle:leB s a <;> cases hea:(a.toList == s.toList) <;> cases p
     · have HE:=y09h (show insF s (l.take (k + 1)) = (out ++ [a],false) by rw [HFE.out];simp [za4,hle,hea])
       clear HFE
       unfold leB at hle
       have HP4:=y09h (HO.out.alloc (.cells #[.string a] 9))
       have HQ4:=y09h (HB.out.alloc zw (.cells #[.string a] 9))
       have hown4:(wr.alloc (.cells #[.string a] 9)).ownsRow (w.heap.size) 9 1 sv (out).length (txC (out)):=HP4.out
       go_wp2_with (first | (at_builtin;refine wpList_append_lies _ (by rfl) _ _ _ (by rfl) (w.heap.size) 9 i0 _ 1 16 Tryz.underlying103 hi hz0 hz1 hz2 rfl (by omega) sv (out).length (txC (out)) (by rfl) hown4 ⟨wr.heap.size,0,none⟩ 1 1 [.string a] (by rfl) (by rfl) ze7 (oneT a) (by omega) (by unfold maxLen;omega) (by omega) (by simp;omega) (wr.heap.size + 1) (by simp) ?_;intro g4 cap4 w4 hown3 hgrow hat hlt3;have HO4:=y09h (OwnT.push hown3 rfl);have HB4:=y09h (zck HP4.out HQ4.out (by omega) hgrow HQ4.out.size);have zw4:=HB4.out.size;clear hown4 hown3 hgrow hat hlt3 HP4 HQ4;have c4:=(HB4.out.cell (p:=⟨b,o + k,none⟩) hb0).trans (HR.out.cell k a HA.out);have zb4:=Nat.lt_of_lt_of_le hb0 HB4.out.size))
       go_roundw
       case rel=>exact ⟨k + 1,_,false,by omega,by go_num,rfl,rfl,y09h (by rw [HE.out]),HLN,y09h (by rw [HE.out];first | exact HO4.out | (have h:=HO4.out;simp only [List.length_append,List.length_cons,List.length_nil] at h;exact h)),HB4⟩
       case measure=>simp [intOf];omega
     · have HE:=y09h (show insF s (l.take (k + 1)) = (out ++ [a],true) by rw [HFE.out];simp [za4,hle,hea])
       clear HFE
       unfold leB at hle
       have HP4:=y09h (HO.out.alloc (.cells #[.string a] 9))
       have HQ4:=y09h (HB.out.alloc zw (.cells #[.string a] 9))
       have hown4:(wr.alloc (.cells #[.string a] 9)).ownsRow (w.heap.size) 9 1 sv (out).length (txC (out)):=HP4.out
       go_wp2_with (first | (at_builtin;refine wpList_append_lies _ (by rfl) _ _ _ (by rfl) (w.heap.size) 9 i0 _ 1 16 Tryz.underlying103 hi hz0 hz1 hz2 rfl (by omega) sv (out).length (txC (out)) (by rfl) hown4 ⟨wr.heap.size,0,none⟩ 1 1 [.string a] (by rfl) (by rfl) ze7 (oneT a) (by omega) (by unfold maxLen;omega) (by omega) (by simp;omega) (wr.heap.size + 1) (by simp) ?_;intro g4 cap4 w4 hown3 hgrow hat hlt3;have HO4:=y09h (OwnT.push hown3 rfl);have HB4:=y09h (zck HP4.out HQ4.out (by omega) hgrow HQ4.out.size);have zw4:=HB4.out.size;clear hown4 hown3 hgrow hat hlt3 HP4 HQ4;have c4:=(HB4.out.cell (p:=⟨b,o + k,none⟩) hb0).trans (HR.out.cell k a HA.out);have zb4:=Nat.lt_of_lt_of_le hb0 HB4.out.size))
       go_roundw
       case rel=>exact ⟨k + 1,_,true,by omega,by go_num,rfl,rfl,y09h (by rw [HE.out]),HLN,y09h (by rw [HE.out];first | exact HO4.out | (have h:=HO4.out;simp only [List.length_append,List.length_cons,List.length_nil] at h;exact h)),HB4⟩
       case measure=>simp [intOf];omega
     · have HE:=y09h (show insF s (l.take (k + 1)) = (out,false) by rw [HFE.out];simp [za4,hle,hea])
       clear HFE
       unfold leB at hle
       go_wp2_with fail
       go_roundw
       case rel=>exact ⟨k + 1,_,false,by omega,by go_num,rfl,rfl,y09h (by rw [HE.out]),HLN,y09h (by rw [HE.out];first | exact HO.out | (have h:=HO.out;simp only [List.length_append,List.length_cons,List.length_nil] at h;exact h)),HB⟩
       case measure=>simp [intOf];omega
     · have HE:=y09h (show insF s (l.take (k + 1)) = (out,true) by rw [HFE.out];simp [za4,hle,hea])
       clear HFE
       unfold leB at hle
       go_wp2_with fail
       go_roundw
       case rel=>exact ⟨k + 1,_,true,by omega,by go_num,rfl,rfl,y09h (by rw [HE.out]),HLN,y09h (by rw [HE.out];first | exact HO.out | (have h:=HO.out;simp only [List.length_append,List.length_cons,List.length_nil] at h;exact h)),HB⟩
       case measure=>simp [intOf];omega
     · have HE:=y09h (show insF s (l.take (k + 1)) = (out ++ [s] ++ [a],true) by rw [HFE.out];simp [za4,hle,hea])
       clear HFE
       unfold leB at hle
       have hlk1:(out ++ [s]).length = (out).length + 1:=by simp
       have HP4:=y09h (HO.out.alloc (.cells #[.string s] 9))
       have HQ4:=y09h (HB.out.alloc zw (.cells #[.string s] 9))
       have hown4:(wr.alloc (.cells #[.string s] 9)).ownsRow (w.heap.size) 9 1 sv (out).length (txC (out)):=HP4.out
       go_wp2_with (first | (at_builtin;refine wpList_append_lies _ (by rfl) _ _ _ (by rfl) (w.heap.size) 9 i0 _ 1 16 Tryz.underlying103 hi hz0 hz1 hz2 rfl (by omega) sv (out).length (txC (out)) (by rfl) hown4 ⟨wr.heap.size,0,none⟩ 1 1 [.string s] (by rfl) (by rfl) ze7 (oneT s) (by omega) (by unfold maxLen;omega) (by omega) (by simp;omega) (wr.heap.size + 1) (by simp) ?_;intro g4 cap4 w4 hown3 hgrow hat hlt3;have HO4:=y09h (OwnT.push hown3 rfl);have HB4:=y09h (zck HP4.out HQ4.out (by omega) hgrow HQ4.out.size);have zw4:=HB4.out.size;clear hown4 hown3 hgrow hat hlt3 HP4 HQ4;have c4:=(HB4.out.cell (p:=⟨b,o + k,none⟩) hb0).trans (HR.out.cell k a HA.out);have zb4:=Nat.lt_of_lt_of_le hb0 HB4.out.size;have HP5:=y09h (HO4.out.alloc (.cells #[.string a] 9));have HQ5:=y09h (HB4.out.alloc zw4 (.cells #[.string a] 9));have hown5:(w4.alloc (.cells #[.string a] 9)).ownsRow (w.heap.size) 9 1 (.slice (some ⟨g4,0,none⟩) ((out).length + 1) cap4) (out ++ [s]).length (txC (out ++ [s])):=HP5.out) | (at_builtin;refine wpList_append_lies _ (by rfl) _ _ _ (by rfl) (w.heap.size) 9 i0 _ 1 16 Tryz.underlying103 hi hz0 hz1 hz2 rfl (by omega) (.slice (some ⟨g4,0,none⟩) ((out).length + 1) cap4) (out ++ [s]).length (txC (out ++ [s])) (by rfl) hown5 ⟨w4.heap.size,0,none⟩ 1 1 [.string a] (by rfl) (by rfl) ze7 (oneT a) (by omega) (by unfold maxLen;omega) (by omega) (by simp;omega) (w4.heap.size + 1) (by simp) ?_;intro g5 cap5 w5 hown3 hgrow hat hlt3;have HO5:=y09h (OwnT.push hown3 rfl);have HB5:=y09h (zck HP5.out HQ5.out (by omega) hgrow HQ5.out.size);have zw5:=HB5.out.size;clear hown5 hown3 hgrow hat hlt3 HP5 HQ5;have c5:=(HB5.out.cell (p:=⟨b,o + k,none⟩) hb0).trans (HR.out.cell k a HA.out);have zb5:=Nat.lt_of_lt_of_le hb0 HB5.out.size))
       go_roundw
       case rel=>exact ⟨k + 1,_,true,by omega,by go_num,rfl,rfl,y09h (by rw [HE.out]),HLN,y09h (by rw [HE.out];first | exact HO5.out | (have h:=HO5.out;simp only [List.length_append,List.length_cons,List.length_nil] at h;exact h)),HB5⟩
       case measure=>simp [intOf];omega
     · have HE:=y09h (show insF s (l.take (k + 1)) = (out ++ [a],true) by rw [HFE.out];simp [za4,hle,hea])
       clear HFE
       unfold leB at hle
       have HP4:=y09h (HO.out.alloc (.cells #[.string a] 9))
       have HQ4:=y09h (HB.out.alloc zw (.cells #[.string a] 9))
       have hown4:(wr.alloc (.cells #[.string a] 9)).ownsRow (w.heap.size) 9 1 sv (out).length (txC (out)):=HP4.out
       go_wp2_with (first | (at_builtin;refine wpList_append_lies _ (by rfl) _ _ _ (by rfl) (w.heap.size) 9 i0 _ 1 16 Tryz.underlying103 hi hz0 hz1 hz2 rfl (by omega) sv (out).length (txC (out)) (by rfl) hown4 ⟨wr.heap.size,0,none⟩ 1 1 [.string a] (by rfl) (by rfl) ze7 (oneT a) (by omega) (by unfold maxLen;omega) (by omega) (by simp;omega) (wr.heap.size + 1) (by simp) ?_;intro g4 cap4 w4 hown3 hgrow hat hlt3;have HO4:=y09h (OwnT.push hown3 rfl);have HB4:=y09h (zck HP4.out HQ4.out (by omega) hgrow HQ4.out.size);have zw4:=HB4.out.size;clear hown4 hown3 hgrow hat hlt3 HP4 HQ4;have c4:=(HB4.out.cell (p:=⟨b,o + k,none⟩) hb0).trans (HR.out.cell k a HA.out);have zb4:=Nat.lt_of_lt_of_le hb0 HB4.out.size))
       go_roundw
       case rel=>exact ⟨k + 1,_,true,by omega,by go_num,rfl,rfl,y09h (by rw [HE.out]),HLN,y09h (by rw [HE.out];first | exact HO4.out | (have h:=HO4.out;simp only [List.length_append,List.length_cons,List.length_nil] at h;exact h)),HB4⟩
       case measure=>simp [intOf];omega
     · have HE:=y09h (show insF s (l.take (k + 1)) = (out ++ [s],true) by rw [HFE.out];simp [za4,hle,hea])
       clear HFE
       unfold leB at hle
       have HP4:=y09h (HO.out.alloc (.cells #[.string s] 9))
       have HQ4:=y09h (HB.out.alloc zw (.cells #[.string s] 9))
       have hown4:(wr.alloc (.cells #[.string s] 9)).ownsRow (w.heap.size) 9 1 sv (out).length (txC (out)):=HP4.out
       go_wp2_with (first | (at_builtin;refine wpList_append_lies _ (by rfl) _ _ _ (by rfl) (w.heap.size) 9 i0 _ 1 16 Tryz.underlying103 hi hz0 hz1 hz2 rfl (by omega) sv (out).length (txC (out)) (by rfl) hown4 ⟨wr.heap.size,0,none⟩ 1 1 [.string s] (by rfl) (by rfl) ze7 (oneT s) (by omega) (by unfold maxLen;omega) (by omega) (by simp;omega) (wr.heap.size + 1) (by simp) ?_;intro g4 cap4 w4 hown3 hgrow hat hlt3;have HO4:=y09h (OwnT.push hown3 rfl);have HB4:=y09h (zck HP4.out HQ4.out (by omega) hgrow HQ4.out.size);have zw4:=HB4.out.size;clear hown4 hown3 hgrow hat hlt3 HP4 HQ4;have c4:=(HB4.out.cell (p:=⟨b,o + k,none⟩) hb0).trans (HR.out.cell k a HA.out);have zb4:=Nat.lt_of_lt_of_le hb0 HB4.out.size))
       go_roundw
       case rel=>exact ⟨k + 1,_,true,by omega,by go_num,rfl,rfl,y09h (by rw [HE.out]),HLN,y09h (by rw [HE.out];first | exact HO4.out | (have h:=HO4.out;simp only [List.length_append,List.length_cons,List.length_nil] at h;exact h)),HB4⟩
       case measure=>simp [intOf];omega
     · have HE:=y09h (show insF s (l.take (k + 1)) = (out,true) by rw [HFE.out];simp [za4,hle,hea])
       clear HFE
       unfold leB at hle
       go_wp2_with fail
       go_roundw
       case rel=>exact ⟨k + 1,_,true,by omega,by go_num,rfl,rfl,y09h (by rw [HE.out]),HLN,y09h (by rw [HE.out];first | exact HO.out | (have h:=HO.out;simp only [List.length_append,List.length_cons,List.length_nil] at h;exact h)),HB⟩
       case measure=>simp [intOf];omega
   · have e:len = k:=by omega
     subst e
     have h1:=HO.out
     have h2:=HP.out
     have h3:=HL.out
     rw [List.take_of_length_le (by rw [HN.out];omega)] at h1 h2 h3
     have zw:=HB.out.size
     have HI:=y09h (show insB l s = if p = true then (insF s l).1 else (insF s l).1 ++ [s] by rw [h2];rfl)
     clear h2 HO HP HL
     generalize (insF s l).1 = out at *
     have HO:=y09h h1
     clear h1
     cases p
     · have HP4:=y09h (HO.out.alloc (.cells #[.string s] 9))
       have HQ4:=y09h (HB.out.alloc zw (.cells #[.string s] 9))
       have hown4:(wr.alloc (.cells #[.string s] 9)).ownsRow (w.heap.size) 9 1 sv (out).length (txC (out)):=HP4.out
       go_wp2_with (first | (at_builtin;refine wpList_append_lies _ (by rfl) _ _ _ (by rfl) (w.heap.size) 9 i0 _ 1 16 Tryz.underlying103 hi hz0 hz1 hz2 rfl (by omega) sv (out).length (txC (out)) (by rfl) hown4 ⟨wr.heap.size,0,none⟩ 1 1 [.string s] (by rfl) (by rfl) ze7 (oneT s) (by omega) (by unfold maxLen;omega) (by omega) (by simp;omega) (wr.heap.size + 1) (by simp) ?_;intro g4 cap4 w4 hown3 hgrow hat hlt3;have HO4:=y09h (OwnT.push hown3 rfl);have HB4:=y09h (zck HP4.out HQ4.out (by omega) hgrow HQ4.out.size);have zw4:=HB4.out.size;clear hown4 hown3 hgrow hat hlt3 HP4 HQ4))
       go_ret
       exact ⟨_,rfl,by rw [HI.out];exact HO4.out,HB4.out⟩
     · go_wp2_with fail
       go_ret
       exact ⟨_,rfl,by rw [HI.out];exact HO.out,HB.out⟩
def zya (F:Nat → List ByteArray) (len:Nat) (X:Array Value) (w:World) (lv iv:Value) (wr:World):Prop :=
 ∃ (k:Nat) (sv:Value),k ≤ len ∧ iv = .int .i64 k ∧ sv = lv ∧ Hid (OwnT wr w.heap.size (zbq (F k)) sv) ∧ Hid (Has wr w.heap.size X) ∧ Hid (Below w.heap.size w wr)
theorem zmb {l:List Fr} {k:Nat} {f:Fr} (h:l[k]? = some f):zag (l.take (k + 1)) = zag (l.take k) ++ f.ids:=by
 unfold zag;rw [zdj h,List.flatMap_append];simp
theorem zm7 {l:List Fr} {k:Nat} {s:ByteArray} (h:s ∈ zag (l.take k)):s ∈ zag l:=by
 unfold zag at *
 rw [List.mem_flatMap] at *
 obtain ⟨f,hf,hs⟩:=h
 exact ⟨f,List.mem_of_mem_take hf,hs⟩
theorem zwh {l:List Fr} {k:Nat}:(zag (l.take k)).length ≤ (zag l).length:=by
 have h:zag l = zag (l.take k) ++ zag (l.drop k):=by unfold zag;rw [← List.flatMap_append,List.take_append_drop]
 rw [h,List.length_append];omega
theorem fr_ok {w:World} {l:List Fr} {U:Nat → Value} {oa:Option Addr} {cap b o:Nat} (h:FrAt w l U oa cap b o):∀ s ∈ zag l,s.size ≤ maxLen:=by
 intro s hs
 unfold zag at hs
 rw [List.mem_flatMap] at hs
 obtain ⟨f,hf,hs⟩:=hs
 obtain ⟨k,hk,e⟩:=List.mem_iff_getElem.1 hf
 exact (h.ids k f (by rw [List.getElem?_eq_getElem hk,e])).ok s hs
theorem zqs (l:List Fr) (A:Nat → Int) (v:Value) (w:World) (hR:FrW w l v) (hlen:(zag l).length ≤ 10000) :
   Calls Tryz.prog 135 #[knV A v] w fun e w'=>∃ v',e = .returned v' ∧ OwnT w' w.heap.size (zbq (zag l)) v' ∧ Below w.heap.size w w':=by
 obtain ⟨U,oa,cap,b,o,rfl,hr⟩:=hR
 have HR:=y09h hr
 have HOK:=y09h (fr_ok hr)
 have hcap:=hr.len
 have hmax:=hr.max
 unfold maxLen at hmax
 clear hr
 have HFL:=y09h hlen
 clear hlen
 generalize hn:l.length = len at *
 have HN:=y09h hn
 clear hn
 go_enter Tryz.func135,Tryz.ntmps135
 go_wp2_with fail
 go_loopw [3,4] (fun lv iv wr=>zya (fun k=>zag (l.take k)) len (knA A (.slice oa len cap)) w lv iv wr) (fun _ iv _=>len - (intOf iv).toNat)
 case atStart=>exact ⟨0,_,Nat.zero_le _,rfl,rfl,by unfold Hid;exact OwnT.nil _ _,by unfold Hid;exact Has.new _ _ _,by unfold Hid;exact (Below.refl _ _).alloc (Nat.le_refl _) _⟩
 case round =>
   obtain ⟨k,sv,hk,rfl,rfl,HO,HX,HB⟩:=hrel
   replace HO:=y09h (show OwnT wr w.heap.size (zbq (zag (l.take k))) sv from HO.out)
   have l1:=HX.out.cell
   have z1:=HX.out.lt
   by_cases hlt:k < len
   · obtain ⟨f,hf⟩:∃ f,l[k]? = some f:=⟨_,List.getElem?_eq_getElem (by rw [HN.out];exact hlt)⟩
     obtain ⟨rfl,hb0⟩:=HR.out.at0 (by rw [HN.out];omega)
     obtain ⟨ou,cu,bu,oo,hu,ht⟩:=HR.out.ids k f hf
     obtain ⟨c0,_⟩:=za6 (w:=wr) (fun j z hz=>(HB.out.cell (p:=⟨b,o + k * 9 + j,none⟩) hb0).trans (HR.out.cell k f hf j z hz))
     rw [hu] at c0
     have hcu:=ht.len
     have hmu:=ht.max
     unfold maxLen at hmu
     have HT:=y09h ht
     have HF:=y09h hf
     have HU:=y09h hu
     clear ht hf hu
     generalize hn2:f.ids.length = nf at *
     have HNF:=y09h hn2
     clear hn2
     have zb:=Nat.lt_of_lt_of_le hb0 HB.out.size
     go_wp2_with fail
     clear l1 z1 c0 zb
     go_loopw [3,5] (fun lv iv wr=>zya (fun j=>zag (l.take k) ++ f.ids.take j) nf (knA A (.slice (some ⟨b,o,none⟩) len cap)) w lv iv wr) (fun _ iv _=>nf - (intOf iv).toNat)
     case atStart=>exact ⟨0,_,Nat.zero_le _,rfl,rfl,by unfold Hid;simp only [List.take_zero,List.append_nil];exact HO.out,HX,HB⟩
     case round =>
       clear HO HX HB
       obtain ⟨j,sv,hj,rfl,rfl,HO,HX,HB⟩:=hrel
       replace HO:=y09h (show OwnT wr w.heap.size (zbq (zag (l.take k) ++ f.ids.take j)) sv from HO.out)
       have l1:=HX.out.cell
       have z1:=HX.out.lt
       obtain ⟨c0,_⟩:=za6 (w:=wr) (fun j z hz=>(HB.out.cell (p:=⟨b,o + k * 9 + j,none⟩) hb0).trans (HR.out.cell k f HF.out j z hz))
       rw [HU.out] at c0
       have zb:=Nat.lt_of_lt_of_le hb0 HB.out.size
       by_cases hjt:j < nf
       · obtain ⟨s,hs⟩:∃ s,f.ids[j]? = some s:=⟨_,List.getElem?_eq_getElem (by rw [HNF.out];exact hjt)⟩
         obtain ⟨rfl,hb1⟩:=HT.out.at0 (by rw [HNF.out];omega)
         have d0:=(HB.out.cell (p:=⟨bu,oo + j,none⟩) hb1).trans (HT.out.cell j s hs)
         have zu:=Nat.lt_of_lt_of_le hb1 HB.out.size
         have hsub:∀ x ∈ zag (l.take k) ++ f.ids.take j,x ∈ zag l:=by
           intro x hx
           rcases List.mem_append.1 hx with hx | hx
           · exact zm7 hx
           · unfold zag;rw [List.mem_flatMap];exact ⟨f,List.mem_of_getElem? HF.out,List.mem_of_mem_take hx⟩
         have hle:(zbq (zag (l.take k) ++ f.ids.take j)).length ≤ 10000:=by
           have h1:=zir (zag (l.take k) ++ f.ids.take j)
           have h2:=zwh (l:=l) (k:=k + 1)
           rw [zmb HF.out] at h2
           have h3:=HFL.out
           simp only [List.length_append,List.length_take] at h1 h2
           omega
         have C:=y09h (zoz _ s sv wr (HO.out.tx fun x hx=>HOK.out x (hsub x (mem_all.1 hx))) hle)
         have HS:=y09h (show zbq (zag (l.take k) ++ f.ids.take (j + 1)) = insB (zbq (zag (l.take k) ++ f.ids.take j)) s by rw [zdj hs,← List.append_assoc,zqk])
         clear hs hsub hle
         go_wp2_with (go_at_call 166;refine C.out.mono ?_;rintro e w2 ⟨v2,rfl,ho2,hb2⟩)
         have HO2:=y09h (ho2.mono (base':=w.heap.size) HB.out.size)
         have HX2:=y09h (HX.out.below hb2 HX.out.lt)
         have HB2:=y09h (HB.out.trans (hb2.mono HB.out.size))
         clear ho2 hb2
         go_roundw
         case rel=>exact ⟨j + 1,_,by omega,by go_num,rfl,y09h (by show OwnT _ _ (zbq (zag (l.take k) ++ f.ids.take (j + 1))) _;rw [HS.out];exact HO2.out),HX2,HB2⟩
         case measure=>simp [intOf];omega
       · have e:nf = j:=by omega
         have h1:=HO.out
         rw [show f.ids.take j = f.ids from List.take_of_length_le (by rw [HNF.out];omega),← zmb HF.out] at h1
         have HO:=y09h h1
         clear h1
         go_wp2_with fail
         go_roundw
         case rel=>exact ⟨k + 1,_,by omega,by go_num,rfl,HO,HX,HB⟩
         case measure=>simp [intOf];omega
   · have e:len = k:=by omega
     have h1:=HO.out
     rw [List.take_of_length_le (by rw [HN.out];omega)] at h1
     have HO:=y09h h1
     clear h1
     go_wp2_with fail
     go_ret
     exact ⟨_,rfl,HO.out,HB.out⟩
structure BySt (w:World) (X Z V:Array Value) (wr:World):Prop where
 o1:Own wr w.heap.size X 31
 o2:Own wr (w.heap.size + 1) Z 28
 o3:Own wr (w.heap.size + 1 + 1) V 28
 bel:Below w.heap.size w wr
theorem BySt.later {w wr w':World} {X Z V:Array Value} (h:BySt w X Z V wr) (hb:Below wr.heap.size wr w'):BySt w X Z V w' :=
 ⟨h.o1.later hb,h.o2.later hb,h.o3.later hb,h.bel.trans (hb.mono h.bel.size)⟩
theorem BySt.put8 {w wr:World} {X Z:Array Value} {z0 z1 z2 z3 z4 z5 z6 z7:Value} (h:BySt w X Z #[z0,z1,z2,z3,z4,z5,z6,z7] wr) (c0 c1 c2 c3 c4 c5 c6 c7:Value):BySt w X Z #[c0,c1,c2,c3,c4,c5,c6,c7] (st8 wr (w.heap.size + 1 + 1) c0 c1 c2 c3 c4 c5 c6 c7):=by
 have hf:∀ {b:Nat} {c:Array Value} {t:TypeId},Own wr b c t → b ≠ w.heap.size + 1 + 1 → Own (st8 wr (w.heap.size + 1 + 1) c0 c1 c2 c3 c4 c5 c6 c7) b c t:=by
   intro b c t ho hb
   unfold st8
   exact ((((((((ho.setFar _ _ hb).setFar _ _ hb).setFar _ _ hb).setFar _ _ hb).setFar _ _ hb).setFar _ _ hb).setFar _ _ hb).setFar _ _ hb)
 exact ⟨hf h.o1 (by omega),hf h.o2 (by omega),zbl h.o3 _ _ _ _ _ _ _ _,za3 h.bel (by omega) _ _ _ _ _ _ _ _⟩
theorem BySt.put1 {w wr:World} {X Z:Array Value} {V:Nat → Int} (h:BySt w X Z (arr8 V) wr) {k:Nat} (hk:k < 8) (v:Int):BySt w X Z (arr8 (fun j=>if j = k then v else V j)) (wr.setCell ⟨w.heap.size + 1 + 1,k,none⟩ (.int .i64 v)):=by
 refine ⟨h.o1.setFar _ _ (by show w.heap.size ≠ w.heap.size + 1 + 1;omega),h.o2.setFar _ _ (by show w.heap.size + 1 ≠ w.heap.size + 1 + 1;omega),?_,h.bel.setCell (by show w.heap.size ≤ w.heap.size + 1 + 1;omega) _⟩
 rw [← zdm V hk v]
 exact h.o3.set k _
def mixV (B R:Nat → Int) (k:Nat) (j:Nat):Int:=if j < k then B j else R j
theorem zwx (B R:Nat → Int):arr8 R = arr8 (mixV B R 0):=zbf fun j _=>by unfold mixV;rw [if_neg (by omega)]
theorem zuw (B R:Nat → Int):arr8 (mixV B R 8) = arr8 B:=zbf fun j h=>by unfold mixV;rw [if_pos h]
theorem zzl (B R:Nat → Int) {k:Nat} {v:Int} (hv:v = B k):arr8 (fun j=>if j = k then v else mixV B R k j) = arr8 (mixV B R (k + 1)):=zbf fun j _=>by
 unfold mixV
 by_cases e:j = k
 · subst e;rw [if_pos rfl,if_pos (by omega)];exact hv
 · rw [if_neg e]
   by_cases h:j < k
   · rw [if_pos h,if_pos (by omega)]
   · rw [if_neg h,if_neg (by omega)]
theorem zww (B R:Nat → Int) {k:Nat} (hv:R k = B k):arr8 (mixV B R k) = arr8 (mixV B R (k + 1)):=zbf fun j _=>by
 unfold mixV
 by_cases e:j = k
 · subst e;rw [if_neg (by omega),if_pos (by omega)];exact hv
 · by_cases h:j < k
   · rw [if_pos h,if_pos (by omega)]
   · rw [if_neg h,if_neg (by omega)]
theorem zxg {l:List Fr} {k:Nat} {f:Fr} {id:ByteArray} (h:l[k]? = some f):rawF (l.take (k + 1)) id = zbz id (rawF (l.take k) id) f:=by
 unfold rawF;rw [zdj h,List.foldl_append];rfl
def zz4 (l:List Fr) (id:ByteArray) (len:Nat) (X:Array Value) (w:World) (iv:Value) (wr:World):Prop :=
 ∃ k:Nat,k ≤ len ∧ iv = .int .i64 k ∧ Hid (BySt w X (arr8 zad) (arr8 (rawF (l.take k) id)) wr)
def zz5 (B R:Nat → Int) (X:Array Value) (w:World) (iv:Value) (wr:World):Prop :=
 ∃ k:Nat,k ≤ 8 ∧ iv = .int .i64 k ∧ Hid (BySt w X (arr8 zad) (arr8 (mixV B R k)) wr)
theorem zlo (A:Nat → Int) (v:Value) {k:Nat} (h:k < 8):(knA A v)[k]? = some (.int .i64 (A k)):=by
 match k,h with
 | 0,_ | 1,_ | 2,_ | 3,_ | 4,_ | 5,_ | 6,_ | 7,_=>rfl
theorem zn3 (K:Kn) (id:ByteArray) (v:Value) (w:World) (hR:FrW w K.l v) :
   Calls Tryz.prog 136 #[knV K.star v,.string id] w fun e w'=>e = .returned (vecV (beyB K id)) ∧ Below w.heap.size w w':=by
 obtain ⟨A,l⟩:=K
 obtain ⟨U,oa,cap,b,o,rfl,hr⟩:=hR
 simp only at hr ⊢
 have HR:=y09h hr
 have hcap:=hr.len
 have hmax:=hr.max
 unfold maxLen at hmax
 clear hr
 generalize hn:l.length = len at *
 have HN:=y09h hn
 clear hn
 have HBE:=y09h (show ∀ j,j < 8 → beyB ⟨A,l⟩ id j = if rawF l id j ≤ A j then 0 else rawF l id j from fun j hj=>by unfold beyB;rw [if_pos hj])
 generalize beyB ⟨A,l⟩ id = B at *
 have I0:BySt w (knA A (.slice oa len cap)) (arr8 zad) (arr8 (rawF (l.take 0) id)) (((w.alloc (.cells (knA A (.slice oa len cap)) 31)).alloc (.cells (arr8 zad) 28)).alloc (.cells (arr8 zad) 28)) :=
   ⟨((Own.new w _ _).alloc _).alloc _,(Own.newAt _ _ _ (by simp)).alloc _,Own.newAt _ _ _ (by simp),(((Below.refl _ _).alloc (Nat.le_refl _) _).alloc (by simp) _).alloc (by simp;omega) _⟩
 have HI0:=y09h I0
 clear I0
 go_enter Tryz.func136,Tryz.ntmps136
 go_wp2_with fail
 go_loopw [6] (fun iv wr=>zz4 l id len (knA A (.slice oa len cap)) w iv wr) (fun iv _=>len - (intOf iv).toNat)
 case atStart=>exact ⟨0,Nat.zero_le _,rfl,HI0⟩
 case round =>
   clear HI0
   obtain ⟨k,hk,rfl,HP⟩:=hrel
   have l1:=HP.out.o1.cell
   have z1:=HP.out.o1.lt
   by_cases hlt:k < len
   · obtain ⟨f,hf⟩:∃ f,l[k]? = some f:=⟨_,List.getElem?_eq_getElem (by rw [HN.out];exact hlt)⟩
     obtain ⟨rfl,hb0⟩:=HR.out.at0 (by rw [HN.out];omega)
     obtain ⟨c0,c1,c2,c3,c4,c5,c6,c7,c8⟩:=za6 (w:=wr) (fun j z hz=>(HP.out.bel.cell (p:=⟨b,o + k * 9 + j,none⟩) hb0).trans (HR.out.cell k f hf j z hz))
     have htx:=(HR.out.ids k f hf).later HP.out.bel (Nat.le_refl _)
     obtain ⟨ou,cu,hu⟩:=htx.val
     rw [hu] at c0 htx
     have C:=y09h (zi7 f.ids id _ wr htx)
     have zb:=Nat.lt_of_lt_of_le hb0 HP.out.bel.size
     have HF:=y09h (zxg (id:=id) hf)
     have l3:=HP.out.o3.cell
     have z3:=HP.out.o3.lt
     have k0:(0:Int) ≤ (k:Int):=by omega
     have k1:(k:Int) < (len:Int):=by omega
     clear htx hu hf
     cases ham:za5 f.ids id
     · rw [ham] at C
       have HS:=y09h (show rawF (l.take (k + 1)) id = rawF (l.take k) id by rw [HF.out,zbz,if_neg (by rw [ham];simp)])
       go_wp2_with (go_at_call 141;refine C.out.mono ?_;rintro e w2 ⟨rfl,rfl⟩)
       go_roundw
       case rel=>exact ⟨k + 1,by omega,by go_num,by unfold Hid;rw [HS.out];exact HP.out⟩
       case measure=>simp [intOf];omega
     · rw [ham] at C
       have HS:=y09h (show rawF (l.take (k + 1)) id = maxV (rawF (l.take k) id) f.v by rw [HF.out,zbz,if_pos ham])
       have M:=y09h (zpo (rawF (l.take k) id) f.v wr.drew)
       clear HF ham
       go_wp2_with (go_at_call 141;refine C.out.mono ?_;rintro e w2 ⟨rfl,rfl⟩)
       refine za1 7 (by kernel_rfl) (by kernel_rfl) ?_
       simp only [List.take_succ_cons,List.take_zero,List.drop_succ_cons,List.drop_zero]
       repeat still_step
       refine wpStill_nil ?_
       clear c0 c1 c2 c3 c4 c5 c6 c7 c8 l1 l3
       go_wp2_with fail
       refine M.out.mono ?_
       rintro e w2 ⟨rfl,hb2⟩
       have hb3:Below wr.heap.size wr w2:=(Below.refl wr.heap.size wr).drew.trans hb2
       have HP2:=y09h (HP.out.later hb3)
       clear hb2 hb3 HP
       have l3:=HP2.out.o3.cell
       have f3:=HP2.out.o3.free
       have z3:=HP2.out.o3.lt
       have HP3:=y09h (HP2.out.put8 (.int .i64 (maxV (rawF (l.take k) id) f.v 0)) (.int .i64 (maxV (rawF (l.take k) id) f.v 1)) (.int .i64 (maxV (rawF (l.take k) id) f.v 2)) (.int .i64 (maxV (rawF (l.take k) id) f.v 3)) (.int .i64 (maxV (rawF (l.take k) id) f.v 4)) (.int .i64 (maxV (rawF (l.take k) id) f.v 5)) (.int .i64 (maxV (rawF (l.take k) id) f.v 6)) (.int .i64 (maxV (rawF (l.take k) id) f.v 7)))
       rw [← HS.out] at HP3
       go_wp2_with fail
       clear l3 f3 z3
       go_roundw
       case rel=>exact ⟨k + 1,by omega,by go_num,by rw [HS.out] at HP3 ⊢;exact HP3⟩
       case measure=>simp [intOf];omega
   · have e:len = k:=by omega
     subst e
     have h1:=HP.out
     rw [show l.take len = l from List.take_of_length_le (by rw [HN.out];omega)] at h1
     rw [zwx B (rawF l id)] at h1
     have HP:=y09h h1
     have HPx:=HP
     clear h1
     go_wp2_with fail
     clear l1 z1
     go_loopw [7] (fun iv wr=>zz5 B (rawF l id) (knA A (.slice oa len cap)) w iv wr) (fun iv _=>8 - (intOf iv).toNat)
     case atStart=>exact ⟨0,by omega,rfl,HPx⟩
     case round =>
       clear HP HPx
       obtain ⟨j,hj,rfl,HP⟩:=hrel
       by_cases hjt:j < 8
       · have LA:=fun dd os=>(HP.out.o1.has.regrown dd os j).trans (zlo A _ hjt)
         have LB:=fun dd os=>(HP.out.o3.has.regrown dd os j).trans (zbo (mixV B (rawF l id) j) hjt)
         have zA:=HP.out.o1.lt
         have zB:=HP.out.o3.lt
         have k0:(0:Int) ≤ (j:Int):=by omega
         have k1:(j:Int) < 8:=by omega
         have hm:mixV B (rawF l id) j j = rawF l id j:=by unfold mixV;rw [if_neg (by omega)]
         rw [hm] at LB
         by_cases h:rawF l id j ≤ A j
         · have g:decide (rawF l id j ≤ A j) = true:=decide_eq_true h
           have HV:=y09h (show (0:Int) = B j by rw [HBE.out j hjt,if_pos h])
           go_wp2_with fail
           refine wp_region_quiet_below (by kernel_rfl) (by kernel_rfl) ?_
           repeat (first | go_big_quiet_step (fail) | quiet_step (fail))
           refine wpQuiet_nil ?_
           intro w7 hw'
           have hb':=y09h (zac hw')
           clear hw'
           clear LA LB
           have HP7:=y09h (HP.out.later hb'.out)
           have HP8:=HP7.out.put1 hjt 0
           rw [zzl _ _ HV.out] at HP8
           have HP9:=y09h HP8
           clear HP8
           have c7:=(HP7.out.o3.cell j).trans (zbo (mixV B (rawF l id) j) hjt)
           have f7:=HP7.out.o3.free j
           have z7:=HP7.out.o3.lt
           go_wp2_with fail
           go_roundw
           case rel=>exact ⟨j + 1,by omega,by go_num,HP9⟩
           case measure=>simp [intOf];omega
         · have g:decide (rawF l id j ≤ A j) = false:=decide_eq_false h
           have HV:=y09h (show rawF l id j = B j by rw [HBE.out j hjt,if_neg h])
           go_wp2_with fail
           refine wp_region_quiet_below (by kernel_rfl) (by kernel_rfl) ?_
           repeat (first | go_big_quiet_step (fail) | quiet_step (fail))
           refine wpQuiet_nil ?_
           intro w7 hw'
           have hb':=y09h (zac hw')
           clear hw'
           clear LA LB
           have HP7:=HP.out.later hb'.out
           rw [zww _ _ HV.out] at HP7
           have HP9:=y09h HP7
           clear HP7
           go_wp2_with fail
           go_roundw
           case rel=>exact ⟨j + 1,by omega,by go_num,HP9⟩
           case measure=>simp [intOf];omega
       · have e:j = 8:=by omega
         subst e
         have h1:=HP.out
         rw [zuw] at h1
         have HP:=y09h h1
         clear h1
         have l2:=HP.out.o2.cell
         have f2:=HP.out.o2.free
         have z2:=HP.out.o2.lt
         have l3:=HP.out.o3.cell
         have z3:=HP.out.o3.lt
         go_wp2_with fail
         have key:=And.intro (zbl HP.out.o2 (.int .i64 (B 0)) (.int .i64 (B 1)) (.int .i64 (B 2)) (.int .i64 (B 3)) (.int .i64 (B 4)) (.int .i64 (B 5)) (.int .i64 (B 6)) (.int .i64 (B 7))) (za3 (b:=w.heap.size + 1) HP.out.bel (by omega) (.int .i64 (B 0)) (.int .i64 (B 1)) (.int .i64 (B 2)) (.int .i64 (B 3)) (.int .i64 (B 4)) (.int .i64 (B 5)) (.int .i64 (B 6)) (.int .i64 (B 7)))
         clear l2 f2 z2 l3 z3
         unfold st8 at key
         revert key
         generalize World.setCell (World.setCell (World.setCell (World.setCell (World.setCell (World.setCell (World.setCell (World.setCell _ _ _) _ _) _ _) _ _) _ _) _ _) _ _) _ _ = WW
         rintro ⟨of,bf⟩
         have lf:=of.cell
         refine bodyPost_ret (v:=vecV B) (by simp [results,Tryz.results136,go_sem,lf]) rfl ⟨rfl,bf⟩
end Go.Proofs.YthnllikalobmeaaGreat
