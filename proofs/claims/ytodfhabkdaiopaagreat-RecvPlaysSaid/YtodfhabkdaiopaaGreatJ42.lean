/- Joined: LocFM, Rcv, LocCud, LocUpd. -/
import Derived.Test.YtodfhabkdaiopaaGreatJ40
import Derived.Test.YtodfhabkdaiopaaGreatJ30
import Derived.Test.YtodfhabkdaiopaaGreatJ37
import Derived.Test.YtodfhabkdaiopaaGreatJ36
import Derived.Test.YtodfhabkdaiopaaGreatJ23
import Derived.Test.YtodfhabkdaiopaaGreatJ21
import Derived.Test.YtodfhabkdaiopaaGreatJ39
import Derived.Test.YtodfhabkdaiopaaGreatJ22
import Derived.Test.YtodfhabkdaiopaaGreatJ41
import Derived.Test.YtodfhabkdaiopaaGreatJ34
import Derived.Test.YtodfhabkdaiopaaGreatJ33
import Derived.Test.YtodfhabkdaiopaaGreatJ05
namespace Go.Proofs.YtodfhabkdaiopaaGreat
set_option linter.unusedVariables false
set_option linter.unusedSimpArgs false
set_option maxRecDepth 100000
set_option maxHeartbeats 8000000
open Go.RowKit
theorem y42h {p:Prop} (h:p):Go.RowKit.Hid p:=Lib.hid h
def za1 (x:Itm):List Fr:=(zah (zal ⟨zad,[]⟩ x.id x.r x.c)).l
theorem zgr (l:List Fr) (id:ByteArray) (j:Nat):beyB ⟨zad,l⟩ id j=if j < 8 then rawF l id j else 0:=by
 unfold beyB
 split
 · have:=zdp l id j
   show (if rawF l id j≤zad j then 0 else rawF l id j)=_
   unfold zad
   split <;> omega
 · rfl
theorem zws {A B:List Fr} (h:∀ id j,j < 8→rawF A id j=rawF B id j):zah ⟨zad,A⟩=zah ⟨zad,B⟩:=by
 have e:beyB ⟨zad,A⟩=beyB ⟨zad,B⟩:=by
   funext id j
   rw [zgr,zgr]
   split
   · rename_i hj;exact h id j hj
   · rfl
 have:=zq1 e
 unfold zah at *
 simp only at this
 rw [this]
theorem zmt (l:List Fr) (id:ByteArray) {j:Nat} (hj:j < 8):rawF (zah ⟨zad,l⟩).l id j=rawF l id j:=by
 have h:=congrFun (congrFun (zhz ⟨zad,l⟩) id) j
 rw [show zah ⟨zad,l⟩=⟨zad,(zah ⟨zad,l⟩).l⟩ from rfl,zgr,zgr,if_pos hj,if_pos hj] at h
 exact h
theorem zul (x:Itm) (id:ByteArray) {j:Nat} (hj:j < 8):rawF (za1 x) id j=rawF [⟨[x.id],zav zad x.r x.c⟩] id j:=by
 have h:=zmt [⟨[x.id],zav zad x.r x.c⟩] id hj
 unfold za1 zal
 rw [List.nil_append]
 exact h
theorem zzc (L:List Fr) (x:Itm):zah (zal (zah ⟨zad,L⟩) x.id x.r x.c)=zah ⟨zad,L ++ za1 x⟩:=by
 have e0:zal (zah ⟨zad,L⟩) x.id x.r x.c=⟨zad,(zah ⟨zad,L⟩).l ++ [⟨[x.id],zav zad x.r x.c⟩]⟩:=by unfold zal;rfl
 rw [e0]
 refine zws fun id j hj=>?_
 have e1:=zmt L id hj
 have e2:=zul x id hj
 rw [zk6,zk6]
 unfold maxV
 rw [e1,e2]
theorem z1j (m:List Itm):∀ (t:St) (L:List Fr),t.k=zah ⟨zad,L⟩→(m.foldl filP t).k=zah ⟨zad,L ++ m.flatMap za1⟩:=by
 induction m with
 | nil=>intro t L h;simpa using h
 | cons x m ih =>
   intro t L h
   have h1:(filP t x).k=zah ⟨zad,L ++ za1 x⟩:=by
     have e0:(filP t x).k=zah (zal t.k x.id x.r x.c):=rfl
     rw [e0,h]
     exact zzc L x
   rw [List.foldl_cons,ih _ _ h1,List.flatMap_cons,List.append_assoc]
theorem zk4 (x:Itm):(zaf (za1 x)).length≤1∧(za1 x).length≤1:=by
 have h:=zda (zal ⟨zad,[]⟩ x.id x.r x.c)
 have e:(zaf (zal ⟨zad,[]⟩ x.id x.r x.c).l).length=1:=by simp [zal,zaf]
 rw [e] at h
 exact h
theorem zga (l:List Itm):(zaf (l.flatMap za1)).length≤l.length∧(l.flatMap za1).length≤l.length:=by
 induction l with
 | nil=>simp [zaf]
 | cons x l ih =>
   have h:=zk4 x
   simp only [List.flatMap_cons,zaf,List.flatMap_append,List.length_append,List.length_cons] at *
   omega
def filZ (s:St) (f:Pr):St:=⟨s.r,f,(zar behT s.store s.out).filter (fun x=>hasT f x),(zar behT s.store s.out).filter (fun x=>!hasT f x),⟨zad,(zah ⟨zad,(zar behT s.store s.out).flatMap za1⟩).l⟩,s.count,s.clock,s.epoch⟩
abbrev filC (s:St) (f:Pr):St:=⟨(filZ s f).r,(filZ s f).f,(filZ s f).store,(filZ s f).out,(filZ s f).k,(filZ s f).count,(filZ s f).clock,(filZ s f).epoch + 1⟩
theorem zqo {s:St} (h:Good s) (f:Pr):filF s f=filC s f:=by
 have F:=zqp h f
 have hr:zap (zar behT s.store s.out):=zd7 s.out h.rs
 have e1:(filF s f).store=(filZ s f).store:=zii F.rs (zbg hr) fun i=>by
   rw [F.ms];simp [filZ,List.mem_filter]
 have e2:(filF s f).out=(filZ s f).out:=zii F.ro (zbg hr) fun i=>by
   rw [F.mo];simp [filZ,List.mem_filter]
 have e3:(filF s f).k=(filZ s f).k:=by
   unfold filF
   rw [z1j _ (filB s f) [] rfl]
   rfl
 calc filF s f=⟨(filF s f).r,(filF s f).f,(filF s f).store,(filF s f).out,(filF s f).k,(filF s f).count,(filF s f).clock,(filF s f).epoch⟩:=rfl
   _=filC s f:=by rw [e1,e2,e3,F.r,F.f,F.c,F.t,F.e];rfl
structure KL (w:World) (base:Nat) (o:List Fr) (U:Nat→Value) (Lv:Value):Prop where
 row:w.ownsRow base 162 9 Lv o.length (frCs U 0 o)
 ids:∀ i f,o[i]?=some f→OwnT w base f.ids (U i)
section
variable {w w':World} {base:Nat} {o:List Fr} {U:Nat→Value} {Lv:Value}
theorem KL.nil (w:World) (base:Nat) (U:Nat→Value):KL w base [] U (.slice none 0 0):=⟨World.ownsRow_nil _ _ _ _,fun i f h=>by simp at h⟩
theorem KL.later (h:KL w base o U Lv) (hb:Below w.heap.size w w'):KL w' base o U Lv:=⟨zau h.row hb,fun i f hf=>(h.ids i f hf).later hb⟩
theorem KL.kept {n size:Nat} {e:TypeId} {v:Value} {xs:List Value} {b0:Nat} (h:KL w base o U Lv) (hv:w.ownsRow b0 e size v n xs) (h1:162 ≠ e) (h2:9 ≠ e) (hg:w.grownBy w' v.ownBlock):KL w' base o U Lv :=
 ⟨h.row.kept hg (zcd h.row hv h1),fun i f hf=>World.ownsRow.kept (h.ids i f hf) hg (zcd (h.ids i f hf) hv h2)⟩
theorem KL.setLow (h:KL w base o U Lv) {a:Addr} (ha:a.block < base) (u:Value):KL (w.setCell a u) base o U Lv :=
 ⟨ownsRow_setCell_below h.row ha u,fun i f hf=>ownsRow_setCell_below (h.ids i f hf) ha u⟩
theorem KL.fr (h:KL w base o U Lv) (hok:∀ f∈o,∀ s∈f.ids,s.size≤maxLen):FrW w o Lv :=
 zse h.row fun i f hf=>(h.ids i f hf).tx (hok f (List.mem_of_getElem? hf))
def catU (n:Nat) (U V:Nat→Value):Nat→Value:=fun i=>if i < n then U i else V (i - n)
theorem zgw {U V:Nat→Value}:∀ (l:List Fr) (s t:Nat),(∀ i,i < l.length→U (s + i)=V (t + i))→frCs U s l=frCs V t l
 | [],_,_,_=>rfl
 | f :: l,s,t,h=>by
   rw [frCs,frCs,zgw l (s + 1) (t + 1) (fun i hi=>by have:=h (i + 1) (by simp;omega);rwa [show s + (i + 1)=s + 1 + i by omega,show t + (i + 1)=t + 1 + i by omega] at this)]
   have:=h 0 (by simp)
   rw [Nat.add_zero,Nat.add_zero] at this
   rw [this]
theorem zvy (U V:Nat→Value) (o m:List Fr):frCs (catU o.length U V) 0 (o ++ m)=frCs U 0 o ++ frCs V 0 m:=by
 rw [zgv]
 congr 1
 · exact zgw o 0 0 fun i hi=>by unfold catU;rw [if_pos (by omega)]
 · exact zgw m _ 0 fun i hi=>by unfold catU;rw [if_neg (by omega)];congr 1;omega
theorem zmg {V:Nat→Value}:∀ (l:List Fr) (s:Nat),(∀ i,i < l.length→(V (s + i)).oneCell'=true)→∀ u∈frCs V s l,u.oneCell'=true
 | [],_,_,u,hu=>by simp [frCs] at hu
 | f :: l,s,h,u,hu=>by
   rw [frCs,List.mem_append] at hu
   rcases hu with hu | hu
   · simp only [fc,List.mem_cons,List.not_mem_nil,or_false] at hu
     rcases hu with rfl | rfl | rfl | rfl | rfl | rfl | rfl | rfl | rfl
     · exact h 0 (by simp)
     all_goals rfl
   · exact zmg l (s + 1) (fun i hi=>by have:=h (i + 1) (by simp;omega);rwa [show s + (i + 1)=s + 1 + i by omega] at this) u hu
theorem KL.app {v9 pv:Value} {m:List Fr} {V:Nat→Value} {B8:Nat} (h:KL w base o U Lv) (hp:PK w B8 m V pv) (hB:base≤B8) (hown:w'.ownsRow base 162 9 v9 (o.length + m.length) (frCs U 0 o ++ frCs V 0 m)) (hg:w.grownBy w' Lv.ownBlock):KL w' base (o ++ m) (catU o.length U V) v9:=by
 refine ⟨by rw [zvy,List.length_append];exact hown,fun i f hf=>?_⟩
 unfold catU
 split
 · rename_i hi
   rw [List.getElem?_append_left hi] at hf
   exact World.ownsRow.kept (h.ids i f hf) hg (zcd (h.ids i f hf) h.row zfw)
 · rename_i hi
   rw [List.getElem?_append_right (by omega)] at hf
   have hm:=(hp.ids _ f hf).mono hB
   exact World.ownsRow.kept hm hg (zcd hm h.row zfw)
theorem zja (ty:TypeId) {v pv:Value} {m:List Fr} {V:Nat→Value} {B8:Nat} (h:KL w base o U v) (hp:PK w B8 m V pv) (hn:o.length + m.length≤30000) (hbase:base≤w.heap.size) :
   ∃ v' w',(Builtin.append_ #[36,36] ty #[v,pv]).run Tryz.prog w=.ok v' w'∧w'.ownsRow base 162 9 v' (o.length + m.length) (frCs U 0 o ++ frCs V 0 m)∧w.grownBy w' v.ownBlock:=by
 obtain ⟨j0,hj,hy0,hy1,hy2⟩:=info_parts zc5
 obtain ⟨oa,cap,g,rfl,h1,h2,hg⟩:=zaq hp.row
 obtain ⟨v',w',hr,ho,hgr⟩:=zc4 36 ty 162 j0 _ 9 88 Tryz.underlying36 hj hy0 hy1 hy2 rfl (by omega) h.row oa m.length cap (frCs V 0 m) (zdh V 0 m) (fun h0=>⟨g,0,(hg h0).1,fun j u hu=>by
   obtain ⟨rfl,_⟩:=hg h0
   have hj:=(List.getElem?_eq_some_iff.1 hu).1
   rw [zdh] at hj
   have hp':m[j / 9]?=some m[j / 9]:=List.getElem?_eq_getElem (by omega)
   have e:j=j / 9 * 9 + j % 9:=by omega
   rw [e,zcz V 0 m _ _ hp' _ (by omega),Nat.zero_add] at hu
   have:=hp.at hp' _ _ hu
   rw [show j / 9 * 9 + j % 9=j by omega] at this
   rw [Nat.zero_add]
   exact this⟩) (zmg m 0 fun i hi=>by
     rw [Nat.zero_add]
     obtain ⟨_,_,e⟩:=(hp.ids i _ (List.getElem?_eq_getElem hi)).val
     rw [e];rfl) hn (by omega) hbase
 exact ⟨v',w',hr,ho,hgr⟩
end
theorem zuw {w w':World} {l:List Itm} {v Lv:Value} {bk:Nat} (h:Row 8 ic w l v) (hk:Own w bk (knA zad Lv) 38) (hg:w.grownBy w' (some bk)):Row 8 ic w' l v:=by
 obtain ⟨oa,cap,b,o,e,h⟩:=h
 refine ⟨oa,cap,b,o,e,h.len,h.max,fun h0=>⟨(h.at0 h0).1,Nat.lt_of_lt_of_le (h.at0 h0).2 hg.size⟩,fun k i hi j u hu=>?_,h.ok⟩
 have hlt:=(h.at0 (by have:=zbo hi;omega)).2
 have hne:b ≠ bk:=by
   intro e
   subst e
   have h0:=h.cell k i hi 0 (.string i.id) rfl
   have h1:=h.cell k i hi 1 (.int .i64 i.r) rfl
   rw [hk.cell] at h0 h1
   have hlt':=(Array.getElem?_eq_some_iff.1 h1).1
   rw [Nat.add_zero] at h0
   generalize o + k * 8=q at *
   simp only [List.size_toArray,List.length_cons,List.length_nil] at hlt'
   rcases (by omega:q=0 ∨ q=1 ∨ q=2 ∨ q=3 ∨ q=4 ∨ q=5 ∨ q=6 ∨ q=7) with rfl | rfl | rfl | rfl | rfl | rfl | rfl | rfl <;> simp at h0
 rw [zqs hg hlt (by simpa using hne)]
 exact h.cell k i hi j u hu
structure FlS (wb:World) (bk:Nat) (l:List Itm) (f:Pr) (k:Nat) (sv ov Lv:Value) (wr:World):Prop where
 gr:wb.grownBy wr (some bk)
 kn:Own wr bk (knA zad Lv) 38
 kl:∃ U,KL wr wb.heap.size ((l.take k).flatMap za1) U Lv
 s:OwnI wr wb.heap.size ((l.take k).filter fun x=>hasT f x) sv
 o:OwnI wr wb.heap.size ((l.take k).filter fun x=>!hasT f x) ov
 ap:sv.ownBlock=none ∨ sv.ownBlock ≠ ov.ownBlock
def z05 (wb:World) (bk:Nat) (l:List Itm) (f:Pr) (n:Nat) (sv ov kv:Value) (wr:World):Prop :=
 ∃ (k:Nat) (Lv:Value),k≤n∧kv=.int .i64 k∧Hid (FlS wb bk l f k sv ov Lv wr)
structure FlM (wb:World) (bk:Nat) (l:List Itm) (f:Pr) (k:Nat) (x:Itm) (I:Nat) (sv ov Lv:Value) (W:World):Prop where
 gr:wb.grownBy W (some bk)
 kn:Own W bk (knA zad Lv) 38
 kl:∃ U,KL W wb.heap.size ((l.take (k + 1)).flatMap za1) U Lv
 s:OwnI W wb.heap.size ((l.take k).filter fun x=>hasT f x) sv
 o:OwnI W wb.heap.size ((l.take k).filter fun x=>!hasT f x) ov
 ap:sv.ownBlock=none ∨ sv.ownBlock ≠ ov.ownBlock
 i:Own W I (iA x) 58
theorem zem {wb w w':World} {bk:Nat} {r:Option Nat} (h:wb.grownBy w (some bk)) (g:w.grownBy w' r) (hr:∀ k,r=some k→wb.heap.size≤k):wb.grownBy w' (some bk) :=
 ⟨g.os.trans h.os,g.tape.trans h.tape,g.output.trans h.output,Nat.le_trans h.size g.size,fun b hb hne=>(g.block b (Nat.lt_of_lt_of_le hb h.size) (fun e=>by have:=hr b e.symm;omega)).trans (h.block b hb hne)⟩
theorem zyw {wb w:World} {bk:Nat} (h:wb.grownBy w (some bk)) (q:Nat) (u:Value):wb.grownBy (w.setCell ⟨bk,q,none⟩ u) (some bk):=by
 refine ⟨h.os,h.tape,h.output,by simpa [World.setCell] using h.size,fun b hb hne=>?_⟩
 rw [Below.heap_setCell _ _ _ _ (by intro e;exact hne (by rw [e]))]
 exact h.block b hb hne
theorem zgq {w w':World} (hb:Below w.heap.size w w'):w.grownBy w' none:=⟨hb.os,hb.tape,hb.output,hb.size,fun b h _=>hb.block b h⟩
theorem know_ne_frag:38 ≠ 162:=by decide
theorem know_ne_item:38 ≠ 58:=by decide
theorem item_ne_frag:58 ≠ 162:=by decide
theorem zin:9 ≠ 58:=by decide
theorem zrh (v9 Lv:Value):(knA zad Lv).setIfInBounds 8 v9=knA zad v9:=by simp
section
variable {wb wr w7 w9 W W':World} {bk k I:Nat} {l:List Itm} {f:Pr} {x:Itm} {sv ov Lv v9:Value}
theorem FlS.mid {U V:Nat→Value} {pv:Value} {B8:Nat} (h:FlS wb bk l f k sv ov Lv wr) (hx:l[k]?=some x) (hbk:bk < wb.heap.size) (hb:Below (wr.heap.size + 1) (wr.alloc (.cells (iA x) 58)).drew w7) (hk:KL wr wb.heap.size ((l.take k).flatMap za1) U Lv) (hp:PK w7 B8 (za1 x) V pv) (hB:wb.heap.size≤B8)
   (hown:w9.ownsRow wb.heap.size 162 9 v9 (((l.take k).flatMap za1).length + (za1 x).length) (frCs U 0 ((l.take k).flatMap za1) ++ frCs V 0 (za1 x))) (hg:w7.grownBy w9 Lv.ownBlock) :
   FlM wb bk l f k x wr.heap.size sv ov v9 (w9.setCell ⟨bk,8,none⟩ v9):=by
 have hB7:Below wr.heap.size wr w7:=(((Below.refl _ _).alloc (Nat.le_refl _) (.cells (iA x) 58)).drew).trans (hb.mono (by omega))
 have hs:=h.gr.size
 have k7:=hk.later hB7
 have e:(l.take (k + 1)).flatMap za1=(l.take k).flatMap za1 ++ za1 x:=by rw [zfg hx];simp
 have hlow:(⟨bk,8,none⟩:Addr).block < wb.heap.size:=hbk
 have i7:Own w7 wr.heap.size (iA x) 58:=(Own.new wr (iA x) 58).drew.later (by simpa using hb)
 refine ⟨zyw (zem (zem h.gr (zgq hB7) (by simp)) hg (fun k hk'=>(k7.row.lt k hk').1)) 8 v9,?_,?_,?_,?_,h.ap,?_⟩
 · have:=(((h.kn.later hB7).grown hg (za9 k7.row (h.kn.later hB7) know_ne_frag.symm)).set 8 v9)
   rw [zrh] at this
   exact this
 · rw [e]
   exact ⟨_,(k7.app hp hB hown hg).setLow hlow v9⟩
 · exact ownsRow_setCell_below (World.ownsRow.kept (h.s.later hB7) hg (zcd (h.s.later hB7) k7.row item_ne_frag)) hlow v9
 · exact ownsRow_setCell_below (World.ownsRow.kept (h.o.later hB7) hg (zcd (h.o.later hB7) k7.row item_ne_frag)) hlow v9
 · exact (i7.grown hg (za9 k7.row i7 item_ne_frag.symm)).setFar _ _ (by show wr.heap.size ≠ bk;omega)
theorem FlM.later (h:FlM wb bk l f k x I sv ov Lv W) (hb:Below W.heap.size W W'):FlM wb bk l f k x I sv ov Lv W' :=
 ⟨zem h.gr (zgq hb) (by simp),h.kn.later hb,by obtain ⟨U,hk⟩:=h.kl;exact ⟨U,hk.later hb⟩,h.s.later hb,h.o.later hb,h.ap,h.i.later hb⟩
theorem FlM.inStore {g cap m:Nat} (h:FlM wb bk l f k x I sv ov Lv W) (hx:l[k]?=some x) (hh:hasT f x=true) (hm:((l.take k).filter fun x=>hasT f x).length=m) (ho:W'.ownsRow wb.heap.size 58 8 (.slice (some ⟨g,0,none⟩) (m + 1) cap) (m + 1) (zay ((l.take k).filter fun x=>hasT f x) ++ ic x)) (hg:(W.alloc (.cells (iA x) 58)).grownBy W' sv.ownBlock) (hn:sv.ownBlock=some g ∨ g=W.heap.size + 1) :
   FlS wb bk l f (k + 1) (.slice (some ⟨g,0,none⟩) (m + 1) cap) ov Lv W':=by
 have hB:Below W.heap.size W (W.alloc (.cells (iA x) 58)):=(Below.refl _ _).alloc (Nat.le_refl _) _
 have s':=h.s.later hB
 have o':=h.o.later hB
 have k':=h.kn.later hB
 have e1:((l.take (k + 1)).filter fun x=>hasT f x)=((l.take k).filter fun x=>hasT f x) ++ [x]:=by rw [zfg hx,List.filter_append];simp [hh]
 have e2:((l.take (k + 1)).filter fun x=>!hasT f x)=((l.take k).filter fun x=>!hasT f x):=by rw [zfg hx,List.filter_append];simp [hh]
 have hap:ov.ownBlock=none ∨ ov.ownBlock ≠ sv.ownBlock:=by
   rcases h.ap with e | e
   · rw [e]
     cases hq:ov.ownBlock with
     | none=>exact .inl rfl
     | some b=>exact .inr (by simp)
   · exact .inr (Ne.symm e)
 refine ⟨zem (zem h.gr (zgq hB) (by simp)) hg (fun k hk=>(World.ownsRow.lt s' k hk).1),k'.grown hg (za9 s' k' know_ne_item.symm),?_,?_,?_,?_⟩
 · obtain ⟨U,hk⟩:=h.kl
   exact ⟨U,(hk.later hB).kept s' item_ne_frag.symm zin hg⟩
 · rw [e1]
   exact OwnI.push ho (by rw [hm])
 · rw [e2]
   exact World.ownsRow.kept o' hg hap
 · right
   show some g ≠ ov.ownBlock
   rcases hn with hn | hn
   · rw [← hn]
     rcases hap with e | e
     · rw [e,hn];simp
     · exact Ne.symm e
   · intro e
     have:=(World.ownsRow.lt h.o g e.symm).2
     omega
theorem FlM.inOut {g cap m:Nat} (h:FlM wb bk l f k x I sv ov Lv W) (hx:l[k]?=some x) (hh:hasT f x=false) (hm:((l.take k).filter fun x=>!hasT f x).length=m) (ho:W'.ownsRow wb.heap.size 58 8 (.slice (some ⟨g,0,none⟩) (m + 1) cap) (m + 1) (zay ((l.take k).filter fun x=>!hasT f x) ++ ic x)) (hg:(W.alloc (.cells (iA x) 58)).grownBy W' ov.ownBlock) (hn:ov.ownBlock=some g ∨ g=W.heap.size + 1) :
   FlS wb bk l f (k + 1) sv (.slice (some ⟨g,0,none⟩) (m + 1) cap) Lv W':=by
 have hB:Below W.heap.size W (W.alloc (.cells (iA x) 58)):=(Below.refl _ _).alloc (Nat.le_refl _) _
 have s':=h.s.later hB
 have o':=h.o.later hB
 have k':=h.kn.later hB
 have e1:((l.take (k + 1)).filter fun x=>hasT f x)=((l.take k).filter fun x=>hasT f x):=by rw [zfg hx,List.filter_append];simp [hh]
 have e2:((l.take (k + 1)).filter fun x=>!hasT f x)=((l.take k).filter fun x=>!hasT f x) ++ [x]:=by rw [zfg hx,List.filter_append];simp [hh]
 refine ⟨zem (zem h.gr (zgq hB) (by simp)) hg (fun k hk=>(World.ownsRow.lt o' k hk).1),k'.grown hg (za9 o' k' know_ne_item.symm),?_,?_,?_,?_⟩
 · obtain ⟨U,hk⟩:=h.kl
   exact ⟨U,(hk.later hB).kept o' item_ne_frag.symm zin hg⟩
 · rw [e1]
   exact World.ownsRow.kept s' hg h.ap
 · rw [e2]
   exact OwnI.push ho (by rw [hm])
 · rcases h.ap with e | e
   · exact .inl e
   · right
     show sv.ownBlock ≠ some g
     rcases hn with hn | hn
     · rw [← hn];exact e
     · intro e'
       have:=(World.ownsRow.lt h.s g e').2
       omega
end
theorem zz9 (a0 a1 a2 a3 a4 a5 a6 a7:Value) (oa:Option Addr) (n c:Nat) (w:World):(Instr.field 38 (.agg #[a0,a1,a2,a3,a4,a5,a6,a7,.slice oa n c]) 1).run Tryz.prog w=.ok (.slice oa n c) w:=by
 simp [Instr.field,run_underlying Tryz.underlying38,part,asAgg,Result.andThen]
theorem zu3 (s:St) (fv sv ov kv v:Value) (A:Nat→Int) (l:List Fr) :
   (((((((((stA s fv sv ov kv).setIfInBounds 8 (.int .i64 (A 0))).setIfInBounds 9 (.int .i64 (A 1))).setIfInBounds 10 (.int .i64 (A 2))).setIfInBounds 11 (.int .i64 (A 3))).setIfInBounds 12 (.int .i64 (A 4))).setIfInBounds 13 (.int .i64 (A 5))).setIfInBounds 14 (.int .i64 (A 6))).setIfInBounds 15 (.int .i64 (A 7))).setIfInBounds 16 v=stA (⟨s.r,s.f,s.store,s.out,⟨A,l⟩,s.count,s.clock,s.epoch⟩:St) fv sv ov v:=by simp
theorem zuj {X:World} {b:Nat} {s:St} {fv sv ov kv:Value} (h:Own X b (stA s fv sv ov kv) 40) (A:Nat→Int) (l:List Fr) (v:Value) :
   Own (X.setCells b 8 [.int .i64 (A 0),.int .i64 (A 1),.int .i64 (A 2),.int .i64 (A 3),.int .i64 (A 4),.int .i64 (A 5),.int .i64 (A 6),.int .i64 (A 7),v]) b (stA (⟨s.r,s.f,s.store,s.out,⟨A,l⟩,s.count,s.clock,s.epoch⟩:St) fv sv ov v) 40:=by
 have h2:=((((((((h.set 8 (.int .i64 (A 0))).set 9 (.int .i64 (A 1))).set 10 (.int .i64 (A 2))).set 11 (.int .i64 (A 3))).set 12 (.int .i64 (A 4))).set 13 (.int .i64 (A 5))).set 14 (.int .i64 (A 6))).set 15 (.int .i64 (A 7))).set 16 v
 rw [zu3 s fv sv ov kv v A l] at h2
 generalize stA (⟨s.r,s.f,s.store,s.out,⟨A,l⟩,s.count,s.clock,s.epoch⟩:St) fv sv ov v=cA at *
 exact h2
theorem zp4 {P:Program} {ops:Array Oper} {Q:Exit→Act→World→Prop} {md:Region.Mode} {S T:World→Prop} {D:Nat→Bool} {i:Nat} {o:Oper} {n:Nat} {l:Array Bool} {a:Act} {w:World} (hr:Region.ready md ops l=[i]) (ho:ops[i]?=some o) (hg:o.guard=none)
   (ty:TypeId) (x y:Operand) (hop:o.op=.store ty x y) (b off:Nat) (cells:Array Value) (hx:a.eval x=.pointer (some ⟨b,off,none⟩)) (hy:a.eval y=.agg cells)
   (ht:w.there b off cells.size) (hi:(P.info? ty).map (·.size)=some cells.size) (h1:cells.all (·.oneCell')=true)
   (hS:D i=false→S (w.setCells b off cells.toList)) (hT:T (w.setCells b off cells.toList)) (h:T (w.setCells b off cells.toList)→zc2 P md ops Q S T D n (l.setIfInBounds i true) (a.put o.dst undef) (w.setCells b off cells.toList)):zc2 P md ops Q S T D (n + 1) l a w :=
 za7 hr ho fun K hK=>by
   rw [if_pos (by simp [Region.wanted,hg])]
   exact wp_store_mid ty x y hop b off cells hx hy ht hi h1 (hK.out _ _ hS hT fun _ h2=>h h2)
end Go.Proofs.YtodfhabkdaiopaaGreat
namespace Go.Proofs.YtodfhabkdaiopaaGreat
set_option linter.unusedVariables false
set_option linter.unusedSimpArgs false
set_option maxRecDepth 100000
set_option maxHeartbeats 8000000
open Go Go.RowKit
theorem zjf (s:St) (fv sv ov kv:Value) (x:Itm) (w:World) :
   Calls Tryz.prog 59 #[stV s fv sv ov kv,iV x] w fun e w'=>e=.returned (.bool (zbc s x))∧Below w.heap.size w w':=by
 have OA:=y42h ((Own.new w (stA s fv sv ov kv) 40).alloc (.cells (iA x) 58))
 have OX:=y42h (Own.newAt (w.alloc (.cells (stA s fv sv ov kv) 40)) (iA x) 58 (b:=w.heap.size + 1) (by simp))
 have BEL:=y42h (((Below.refl w.heap.size w).alloc (Nat.le_refl _) (.cells (stA s fv sv ov kv) 40)).alloc (by simp) (.cells (iA x) 58))
 have CM:=fun w'=>y42h (zkz x w')
 have HE:=y42h (show zbc s x=(mayT x && (!(decide (x.r=s.r)) || decide (x.c≤s.count))) from rfl)
 generalize zbc s x=res at *
 have ways:(mayT x=false∧res=false) ∨ (mayT x=true∧(x.r != s.r)=true∧res=true) ∨ (mayT x=true∧(x.r != s.r)=false∧decide (x.c≤s.count)=true∧res=true) ∨ (mayT x=true∧(x.r != s.r)=false∧decide (x.c≤s.count)=false∧res=false):=by
   have h:=HE.out
   cases hm:mayT x
   · rw [hm] at h;exact .inl ⟨rfl,h⟩
   · rw [hm] at h
     by_cases hr:x.r=s.r
     · by_cases hc:x.c≤s.count
       · exact .inr (.inr (.inl ⟨rfl,by simp [hr],by simp [hc],by rw [h];simp [hr,hc]⟩))
       · exact .inr (.inr (.inr ⟨rfl,by simp [hr],by simp;omega,by rw [h];simp [hr,hc]⟩))
     · exact .inr (.inl ⟨rfl,by simp [hr],by rw [h];simp [hr]⟩)
 clear HE
 have lA:=OA.out.cell
 have zA:=OA.out.lt
 have lX:=OX.out.cell
 have zX:=OX.out.lt
 rcases ways with ⟨hm,rfl⟩ | ⟨hm,e1,rfl⟩ | ⟨hm,e1,e2,rfl⟩ | ⟨hm,e1,e2,rfl⟩
 all_goals
   rw [hm] at CM
   clear hm
   go_enter Tryz.func59,Tryz.ntmps59
   go_wp2_with (refine wpList_load_mid (by rfl) 58 _ (by rfl) (w.heap.size + 1) 0 (by rfl) (ic x) _ (by exact OX.out.part 0 _ (by rfl)) Tryz.underlying58 (by rfl) (by kernel_rfl) ?_)
   refine (CM _).out.mono ?_
   rintro e w1 ⟨rfl,hb⟩
   clear lA zA lX zX
   replace OA:=y42h (OA.out.later hb)
   replace OX:=y42h (OX.out.later hb)
   replace BEL:=y42h (BEL.out.trans (hb.mono BEL.out.size))
   clear hb
   have lA:=OA.out.cell
   have zA:=OA.out.lt
   have lX:=OX.out.cell
   have zX:=OX.out.lt
   go_wp2_with fail
   go_ret
   exact ⟨rfl,BEL.out⟩
theorem zo2 (p:Pr) (v:Value) (x:Itm) (w:World) (hL:LP w p v) (hid:x.id.size≤maxLen) (hsz:p.size≤1000) :
   Calls Tryz.prog 63 #[prV p v,iV x] w fun e w'=>e=.returned (.bool (hasT p x))∧Below w.heap.size w w':=by
 have OA:=y42h ((Own.new w #[.int .i64 p.op,.string p.text,.int .i64 p.n,.complex .f64 p.x p.y,v] 32).alloc (.cells (iA x) 58))
 have OX:=y42h (Own.newAt (w.alloc (.cells #[.int .i64 p.op,.string p.text,.int .i64 p.n,.complex .f64 p.x p.y,v] 32)) (iA x) 58 (b:=w.heap.size + 1) (by simp))
 have BEL:=y42h (((Below.refl w.heap.size w).alloc (Nat.le_refl _) (.cells #[.int .i64 p.op,.string p.text,.int .i64 p.n,.complex .f64 p.x p.y,v] 32)).alloc (by simp) (.cells (iA x) 58))
 have HL:=y42h hL
 have CS:=fun w' h=>y42h (zgg p v w' h (by omega))
 have CH:=fun w' h=>y42h (show Calls Tryz.prog 139 #[prV p v,iV x] w' (fun e w''=>e=.returned (.bool (hasT p x))∧Below w'.heap.size w' w'') from zml x.it x.r x.c x.st x.d hid p v w' h)
 clear hL hid hsz
 generalize hasT p x=res at *
 have lA:=OA.out.cell
 have zA:=OA.out.lt
 go_enter Tryz.func63,Tryz.ntmps63
 go_wp2_with fail
 refine (CS _ (HL.out.later BEL.out (Nat.le_refl _))).out.mono ?_
 rintro e w1 ⟨rfl,hb⟩
 clear lA zA
 replace OA:=y42h (OA.out.later hb)
 replace OX:=y42h (OX.out.later hb)
 replace BEL:=y42h (BEL.out.trans (hb.mono BEL.out.size))
 clear hb
 have lA:=OA.out.cell
 have zA:=OA.out.lt
 have lX:=OX.out.cell
 have zX:=OX.out.lt
 go_wp2_with fail
 refine (CH _ (HL.out.later BEL.out (Nat.le_refl _))).out.mono ?_
 rintro e w2 ⟨rfl,hb⟩
 clear lA zA lX zX
 replace BEL:=y42h (BEL.out.trans (hb.mono BEL.out.size))
 clear hb
 go_wp2_with fail
 all_goals
   go_ret
   exact ⟨rfl,BEL.out⟩
end Go.Proofs.YtodfhabkdaiopaaGreat
namespace Go.Proofs.YtodfhabkdaiopaaGreat
set_option linter.unusedVariables false
set_option linter.unusedSimpArgs false
set_option maxRecDepth 100000
set_option maxHeartbeats 8000000
open Go.RowKit
abbrev rawI (id kd:ByteArray) (num:Int) (px py:Nat):Itm:=⟨id,0,0,0,kd,num,px,py,false⟩
theorem z1e {s:St} {x:Itm} (h:mayT x=false):creS s x=s∧creE s x=1:=by
 have e:creE s x=1:=by unfold creE;rw [if_neg (by simp [h])]
 exact ⟨by unfold creS;rw [e,if_neg (by decide)],e⟩
theorem z1f {s:St} {x:Itm} (h:mayT x=true) (h2:(zae s x.id).2=true) (h3:(zae s x.id).1.d=false):creS s x=s∧creE s x=3:=by
 have e:creE s x=3:=by unfold creE;rw [if_pos h,if_pos ⟨h2,h3⟩]
 exact ⟨by unfold creS;rw [e,if_neg (by decide)],e⟩
theorem z1g {s:St} {x:Itm} (h:mayT x=true) (h2:(zae s x.id).2=false) (h3:s.store.length + s.out.length=40):creS s x=s∧creE s x=4:=by
 have e:creE s x=4:=by unfold creE;rw [if_pos h,if_neg (by simp [h2]),if_pos ⟨h2,h3⟩]
 exact ⟨by unfold creS;rw [e,if_neg (by decide)],e⟩
theorem zgo (s:St) (x:Itm):(verE s=0→verS s x=zbb s x)∧(verE s ≠ 0→verS s x=s):=by
 unfold verE verS
 cases zbi s <;> simp
theorem z1h {s:St} {id kd:ByteArray} {num:Int} {px py:Nat} (h:mayT (itS id kd num px py)=true) (h2:¬((zae s id).2=true∧(zae s id).1.d=false)) (h3:¬((zae s id).2=false∧s.store.length + s.out.length=40)):creS s (itS id kd num px py)=verS s (rawI id kd num px py)∧creE s (itS id kd num px py)=verE s:=by
 have e:creE s (itS id kd num px py)=verE s:=by unfold creE verE;rw [if_pos h,if_neg h2,if_neg h3]
 refine ⟨?_,e⟩
 unfold creS
 rw [e]
 split
 · rename_i h0;exact ((zgo s _).1 h0).symm
 · rename_i h0;exact ((zgo s _).2 h0).symm
theorem z1v {s:St} {x:Itm} (h:mayT x=false):updS s x=s∧updE s x=1:=by
 have e:updE s x=1:=by unfold updE;rw [if_neg (by simp [h])]
 exact ⟨by unfold updS;rw [e,if_neg (by decide)],e⟩
theorem z1w {s:St} {x:Itm} (h:mayT x=true) (h2:¬((zae s x.id).2=true∧(zae s x.id).1.d=false)):updS s x=s∧updE s x=2:=by
 have e:updE s x=2:=by unfold updE;rw [if_pos h,if_neg h2]
 exact ⟨by unfold updS;rw [e,if_neg (by decide)],e⟩
theorem z1x {s:St} {id kd:ByteArray} {num:Int} {px py:Nat} (h:mayT (itS id kd num px py)=true) (h2:(zae s id).2=true∧(zae s id).1.d=false):updS s (itS id kd num px py)=verS s (rawI id kd num px py)∧updE s (itS id kd num px py)=verE s:=by
 have e:updE s (itS id kd num px py)=verE s:=by unfold updE verE;rw [if_pos h,if_pos h2]
 refine ⟨?_,e⟩
 unfold updS
 rw [e]
 split
 · rename_i h0;exact ((zgo s _).1 h0).symm
 · rename_i h0;exact ((zgo s _).2 h0).symm
theorem z1i {s:St} {id:ByteArray} (h:zbd id=true) (h2:(zae s id).2=true∧(zae s id).1.d=false):delS s id=verS s (zfv (zae s id).1)∧delE s id=verE s:=by
 have e:delE s id=verE s:=by unfold delE verE;rw [if_pos h,if_pos h2]
 refine ⟨?_,e⟩
 unfold delS
 rw [e]
 split
 · rename_i h0;exact ((zgo s _).1 h0).symm
 · rename_i h0;exact ((zgo s _).2 h0).symm
theorem zi9 (s:St) (fv sv ov kv:Value) (id kd:ByteArray) (num:Int) (px py:Nat) (w:World) (hS:StW w s fv sv ov kv) (hG:Good s) (hB:StB s) (hid:id.size≤maxLen) (hkd:kd.size≤maxLen) :
   Calls Tryz.prog 75 #[stV s fv sv ov kv,.string id,.string kd,.int .i64 num,.complex .f64 px py] w (Told errI s.f fv s sv ov kv (updS s (itS id kd num px py)) (updE s (itS id kd num px py)) w):=by
 have hb1:=hB.f
 have hb2:=hB.ls
 have hb3:=hB.lo
 have hb4:=hB.kl
 have hb5:=hB.ki
 have AG:=fun w' h=>y42h (zdf s fv sv ov kv w' h (by omega) (by omega) (by omega) (by omega) (by omega))
 have GT:=fun w' h=>y42h (zoc hG id ▸ zh8 s fv sv ov kv id w' h hG.rs hG.ro (by omega) (by omega) hid)
 have VC:=fun w' h=>y42h (zd4 s fv sv ov kv (rawI id kd num px py) w' h hG ⟨hid,hkd⟩ hb1 (by show (zaf (zal s.k id s.r (s.count + 1)).l).length≤10000;rw [zbk];omega) (by omega) (by omega))
 have FT:=fun w'=>y42h (zho (rawI id kd num px py) w')
 have hn:=hG.n
 obtain ⟨of_,cf,rfl⟩:=zao hS.lf
 obtain ⟨os,cs,rfl⟩:=hS.ls.val
 obtain ⟨oo,co,rfl⟩:=hS.lo.val
 obtain ⟨ok,ck,rfl⟩:=hS.lk.val
 have HW:=y42h hS
 have E1:=y42h (z1v (s:=s) (x:=itS id kd num px py))
 have E2:=y42h (z1w (s:=s) (x:=itS id kd num px py))
 have EV:=y42h (z1x (s:=s) (id:=id) (kd:=kd) (num:=num) (px:=px) (py:=py))
 clear hS hG hB hb1 hb2 hb3 hb4 hb5 hid hkd
 change ∀ w',Hid (Calls Tryz.prog 149 #[iV (rawI id kd num px py)] w' fun e w''=>e=.returned (.bool (mayT (itS id kd num px py)))∧Below w'.heap.size w' w'') at FT
 generalize updS s (itS id kd num px py)=us at *
 generalize updE s (itS id kd num px py)=ue at *
 generalize mayT (itS id kd num px py)=bm at *
 generalize hq:zae s id=q at *
 obtain ⟨y,bt⟩:=q
 generalize verS s (rawI id kd num px py)=U at *
 generalize verE s=VE at *
 have OA:=y42h (((Own.new w (stA s (.slice of_ s.f.kids.length cf) (.slice os s.store.length cs) (.slice oo s.out.length co) (.slice ok s.k.l.length ck)) 40).alloc (.cells stZ.toArray 40)).alloc (.cells (iA (rawI id kd num px py)) 58))
 have OT:=y42h ((Own.newAt (w.alloc (.cells (stA s (.slice of_ s.f.kids.length cf) (.slice os s.store.length cs) (.slice oo s.out.length co) (.slice ok s.k.l.length ck)) 40)) stZ.toArray 40 (b:=w.heap.size + 1) (by simp)).alloc (.cells (iA (rawI id kd num px py)) 58))
 have OX:=y42h (Own.newAt ((w.alloc (.cells (stA s (.slice of_ s.f.kids.length cf) (.slice os s.store.length cs) (.slice oo s.out.length co) (.slice ok s.k.l.length ck)) 40)).alloc (.cells stZ.toArray 40)) (iA (rawI id kd num px py)) 58 (b:=w.heap.size + 2) (by simp))
 have BE:=y42h ((((Below.refl w.heap.size w).alloc (Nat.le_refl _) (.cells (stA s (.slice of_ s.f.kids.length cf) (.slice os s.store.length cs) (.slice oo s.out.length co) (.slice ok s.k.l.length ck)) 40)).alloc (by simp) (.cells stZ.toArray 40)).alloc (by simp;omega) (.cells (iA (rawI id kd num px py)) 58))
 have lOA:=OA.out.cell
 have zOA:=OA.out.lt
 have lOX:=OX.out.cell
 have zOX:=OX.out.lt
 go_enter Tryz.func75,Tryz.ntmps75
 go_wp2_with (first | (refine wpList_load_mid (by rfl) 40 _ (by rfl) w.heap.size 0 (by rfl) ((stA s (.slice of_ s.f.kids.length cf) (.slice os s.store.length cs) (.slice oo s.out.length co) (.slice ok s.k.l.length ck))).toList _ OA.out.range Tryz.underlying40 (by rfl) (by kernel_rfl) ?_) | fail)
 refine (GT _ (HW.out.later BE.out)).out.mono ?_
 rintro e w1 ⟨rfl,hb⟩
 clear lOA zOA lOX zOX
 replace OA:=y42h (OA.out.later hb)
 replace OT:=y42h (OT.out.later hb)
 replace OX:=y42h (OX.out.later hb)
 replace BE:=y42h (BE.out.trans (hb.mono BE.out.size))
 clear hb
 have O6:=y42h (Own.new w1 (iA y) 58)
 replace BE:=y42h (BE.out.alloc (by have:=BE.out.size;omega) (.cells (iA y) 58))
 replace OA:=y42h (OA.out.alloc (.cells (iA y) 58))
 replace OT:=y42h (OT.out.alloc (.cells (iA y) 58))
 replace OX:=y42h (OX.out.alloc (.cells (iA y) 58))
 have lOA:=OA.out.cell
 have zOA:=OA.out.lt
 have lOX:=OX.out.cell
 have zOX:=OX.out.lt
 go_wp2_with fail
 refine (FT _).out.mono ?_
 rintro e w2 ⟨rfl,hb⟩
 clear lOA zOA lOX zOX
 replace OA:=y42h (OA.out.later hb)
 replace OT:=y42h (OT.out.later hb)
 replace OX:=y42h (OX.out.later hb)
 replace O6:=y42h (O6.out.later hb)
 replace BE:=y42h (BE.out.trans (hb.mono BE.out.size))
 clear hb
 have lOA:=OA.out.cell
 have zOA:=OA.out.lt
 have lOX:=OX.out.cell
 have zOX:=OX.out.lt
 have lO6:=O6.out.cell
 have zO6:=O6.out.lt
 cases bm
 · have EE:=y42h (E1.out rfl)
   go_wp2_with (first | (refine wpList_load_mid (by rfl) 40 _ (by rfl) w.heap.size 0 (by rfl) ((stA s (.slice of_ s.f.kids.length cf) (.slice os s.store.length cs) (.slice oo s.out.length co) (.slice ok s.k.l.length ck))).toList _ OA.out.range Tryz.underlying40 (by rfl) (by kernel_rfl) ?_) | fail)
   refine (AG _ (HW.out.later BE.out)).out.mono ?_
   rintro e w3 ⟨v3,v4,v5,v6,rfl,hl,hr4,hr5,hk,hb⟩
   obtain ⟨o3,c3,rfl⟩:=zao hl.lp
   obtain ⟨o4,c4,rfl⟩:=hr4.row.val
   obtain ⟨o5,c5,rfl⟩:=hr5.row.val
   obtain ⟨o6,c6,rfl⟩:=hk.fr.val
   have zw:=OT.out.lt
   have zB:=BE.out.size
   clear lOA zOA lOX zOX lO6 zO6
   replace BE:=y42h (BE.out.trans (hb.mono BE.out.size))
   replace OT:=y42h (OT.out.later hb)
   have HK:=y42h (And.intro (OT.out.sets (stA s (.slice o3 s.f.kids.length c3) (.slice o4 s.store.length c4) (.slice o5 s.out.length c5) (.slice o6 s.k.l.length c6)).toList (by rfl)) (And.intro (zaa (b:=w.heap.size + 1) (by omega) (stA s (.slice o3 s.f.kids.length c3) (.slice o4 s.store.length c4) (.slice o5 s.out.length c5) (.slice o6 s.k.l.length c6)).toList 0 BE.out) (And.intro ((hl.setsAt (b:=w.heap.size + 1) zw (stA s (.slice o3 s.f.kids.length c3) (.slice o4 s.store.length c4) (.slice o5 s.out.length c5) (.slice o6 s.k.l.length c6)).toList 0).mono' zB) (And.intro ((hr4.sets (b:=w.heap.size + 1) zw (stA s (.slice o3 s.f.kids.length c3) (.slice o4 s.store.length c4) (.slice o5 s.out.length c5) (.slice o6 s.k.l.length c6)).toList 0).mono zB) (And.intro ((hr5.sets (b:=w.heap.size + 1) zw (stA s (.slice o3 s.f.kids.length c3) (.slice o4 s.store.length c4) (.slice o5 s.out.length c5) (.slice o6 s.k.l.length c6)).toList 0).mono zB) ((hk.sets (b:=w.heap.size + 1) zw (stA s (.slice o3 s.f.kids.length c3) (.slice o4 s.store.length c4) (.slice o5 s.out.length c5) (.slice o6 s.k.l.length c6)).toList 0).mono zB))))))
   clear hl hr4 hr5 hk hb zw zB
   go_wp2_with (first | (refine wpList_store_mid (by rfl) 40 _ _ (by rfl) (w.heap.size + 1) 0 (stA s (.slice o3 s.f.kids.length c3) (.slice o4 s.store.length c4) (.slice o5 s.out.length c5) (.slice o6 s.k.l.length c6)) (by rfl) (by rfl) (OT.out.there (by rfl)) (by kernel_rfl) (by simp [Value.oneCell']) ?_) | fail)
   revert HK
   generalize World.setCells _ _ _ _=WW
   intro HK
   refine zab (by rfl) (by rfl) (by rfl) HK.out.1.range Tryz.underlying40 (by rfl) (by kernel_rfl) rfl ?_
   rw [EE.out.1,EE.out.2]
   exact ⟨_,_,_,_,rfl,⟨.inr HK.out.2.2.1,.inr HK.out.2.2.2.1,.inr HK.out.2.2.2.2.1,.inr HK.out.2.2.2.2.2⟩,HK.out.2.1⟩
 · clear E1
   cases bt
   · have EE:=y42h (E2.out rfl (by simp))
     clear EV E2 hq
     go_wp2_with (first | (refine wpList_load_mid (by rfl) 40 _ (by rfl) w.heap.size 0 (by rfl) ((stA s (.slice of_ s.f.kids.length cf) (.slice os s.store.length cs) (.slice oo s.out.length co) (.slice ok s.k.l.length ck))).toList _ OA.out.range Tryz.underlying40 (by rfl) (by kernel_rfl) ?_) | fail)
     refine (AG _ (HW.out.later BE.out)).out.mono ?_
     rintro e w3 ⟨v3,v4,v5,v6,rfl,hl,hr4,hr5,hk,hb⟩
     obtain ⟨o3,c3,rfl⟩:=zao hl.lp
     obtain ⟨o4,c4,rfl⟩:=hr4.row.val
     obtain ⟨o5,c5,rfl⟩:=hr5.row.val
     obtain ⟨o6,c6,rfl⟩:=hk.fr.val
     have zw:=OT.out.lt
     have zB:=BE.out.size
     clear lOA zOA lOX zOX lO6 zO6
     replace BE:=y42h (BE.out.trans (hb.mono BE.out.size))
     replace OT:=y42h (OT.out.later hb)
     have HK:=y42h (And.intro (OT.out.sets (stA s (.slice o3 s.f.kids.length c3) (.slice o4 s.store.length c4) (.slice o5 s.out.length c5) (.slice o6 s.k.l.length c6)).toList (by rfl)) (And.intro (zaa (b:=w.heap.size + 1) (by omega) (stA s (.slice o3 s.f.kids.length c3) (.slice o4 s.store.length c4) (.slice o5 s.out.length c5) (.slice o6 s.k.l.length c6)).toList 0 BE.out) (And.intro ((hl.setsAt (b:=w.heap.size + 1) zw (stA s (.slice o3 s.f.kids.length c3) (.slice o4 s.store.length c4) (.slice o5 s.out.length c5) (.slice o6 s.k.l.length c6)).toList 0).mono' zB) (And.intro ((hr4.sets (b:=w.heap.size + 1) zw (stA s (.slice o3 s.f.kids.length c3) (.slice o4 s.store.length c4) (.slice o5 s.out.length c5) (.slice o6 s.k.l.length c6)).toList 0).mono zB) (And.intro ((hr5.sets (b:=w.heap.size + 1) zw (stA s (.slice o3 s.f.kids.length c3) (.slice o4 s.store.length c4) (.slice o5 s.out.length c5) (.slice o6 s.k.l.length c6)).toList 0).mono zB) ((hk.sets (b:=w.heap.size + 1) zw (stA s (.slice o3 s.f.kids.length c3) (.slice o4 s.store.length c4) (.slice o5 s.out.length c5) (.slice o6 s.k.l.length c6)).toList 0).mono zB))))))
     clear hl hr4 hr5 hk hb zw zB
     go_wp2_with (first | (refine wpList_store_mid (by rfl) 40 _ _ (by rfl) (w.heap.size + 1) 0 (stA s (.slice o3 s.f.kids.length c3) (.slice o4 s.store.length c4) (.slice o5 s.out.length c5) (.slice o6 s.k.l.length c6)) (by rfl) (by rfl) (OT.out.there (by rfl)) (by kernel_rfl) (by simp [Value.oneCell']) ?_) | fail)
     revert HK
     generalize World.setCells _ _ _ _=WW
     intro HK
     refine zab (by rfl) (by rfl) (by rfl) HK.out.1.range Tryz.underlying40 (by rfl) (by kernel_rfl) rfl ?_
     rw [EE.out.1,EE.out.2]
     exact ⟨_,_,_,_,rfl,⟨.inr HK.out.2.2.1,.inr HK.out.2.2.2.1,.inr HK.out.2.2.2.2.1,.inr HK.out.2.2.2.2.2⟩,HK.out.2.1⟩
   · cases hd:y.d
     · have EE:=y42h (EV.out rfl ⟨rfl,hd⟩)
       clear EV E2 hq
       go_wp2_with (first | (refine wpList_load_mid (by rfl) 40 _ (by rfl) w.heap.size 0 (by rfl) ((stA s (.slice of_ s.f.kids.length cf) (.slice os s.store.length cs) (.slice oo s.out.length co) (.slice ok s.k.l.length ck))).toList _ OA.out.range Tryz.underlying40 (by rfl) (by kernel_rfl) ?_) | fail)
       refine (VC _ (HW.out.later BE.out)).out.mono ?_
       rintro e w3 ⟨v3,v4,v5,v6,rfl,hn,hb⟩
       have hst:=hn.lies (HW.out.later BE.out).lf (HW.out.later BE.out).ls (HW.out.later BE.out).lo (HW.out.later BE.out).lk hb
       have hfv3:v3.oneCell'=true:=zas hst.lf
       have hsv3:v4.oneCell'=true:=(by obtain ⟨_,_,_,_,e,_⟩:=hst.ls;rw [e];rfl)
       have hov3:v5.oneCell'=true:=(by obtain ⟨_,_,_,_,e,_⟩:=hst.lo;rw [e];rfl)
       have hkv3:v6.oneCell'=true:=(by obtain ⟨_,_,e⟩:=hst.lk.val;rw [e];rfl)
       unfold Value.oneCell' at hfv3 hsv3 hov3 hkv3
       have zw:=OT.out.lt
       have zB:=BE.out.size
       clear lOA zOA lOX zOX lO6 zO6
       replace BE:=y42h (BE.out.trans (hb.mono BE.out.size))
       replace OT:=y42h (OT.out.later hb)
       have HK:=y42h (And.intro (OT.out.sets (stA U v3 v4 v5 v6).toList (by rfl)) (And.intro (zaa (b:=w.heap.size + 1) (by omega) (stA U v3 v4 v5 v6).toList 0 BE.out) ((hn.sets zw (stA U v3 v4 v5 v6).toList).mono zB)))
       clear hn hb hst zw zB
       go_wp2_with (first | (refine wpList_store_mid (by rfl) 40 _ _ (by rfl) (w.heap.size + 1) 0 (stA U v3 v4 v5 v6) (by rfl) (by rfl) (OT.out.there (by rfl)) (by kernel_rfl) (by simp [Value.oneCell',hfv3,hsv3,hov3,hkv3]) ?_) | fail)
       revert HK
       generalize World.setCells _ _ _ _=WW
       intro HK
       refine zab (by rfl) (by rfl) (by rfl) HK.out.1.range Tryz.underlying40 (by rfl) (by kernel_rfl) rfl ?_
       rw [EE.out.1,EE.out.2]
       exact ⟨v3,v4,v5,v6,rfl,HK.out.2.2,HK.out.2.1⟩
     · have EE:=y42h (E2.out rfl (by simp [hd]))
       clear EV E2 hq
       go_wp2_with (first | (refine wpList_load_mid (by rfl) 40 _ (by rfl) w.heap.size 0 (by rfl) ((stA s (.slice of_ s.f.kids.length cf) (.slice os s.store.length cs) (.slice oo s.out.length co) (.slice ok s.k.l.length ck))).toList _ OA.out.range Tryz.underlying40 (by rfl) (by kernel_rfl) ?_) | fail)
       refine (AG _ (HW.out.later BE.out)).out.mono ?_
       rintro e w3 ⟨v3,v4,v5,v6,rfl,hl,hr4,hr5,hk,hb⟩
       obtain ⟨o3,c3,rfl⟩:=zao hl.lp
       obtain ⟨o4,c4,rfl⟩:=hr4.row.val
       obtain ⟨o5,c5,rfl⟩:=hr5.row.val
       obtain ⟨o6,c6,rfl⟩:=hk.fr.val
       have zw:=OT.out.lt
       have zB:=BE.out.size
       clear lOA zOA lOX zOX lO6 zO6
       replace BE:=y42h (BE.out.trans (hb.mono BE.out.size))
       replace OT:=y42h (OT.out.later hb)
       have HK:=y42h (And.intro (OT.out.sets (stA s (.slice o3 s.f.kids.length c3) (.slice o4 s.store.length c4) (.slice o5 s.out.length c5) (.slice o6 s.k.l.length c6)).toList (by rfl)) (And.intro (zaa (b:=w.heap.size + 1) (by omega) (stA s (.slice o3 s.f.kids.length c3) (.slice o4 s.store.length c4) (.slice o5 s.out.length c5) (.slice o6 s.k.l.length c6)).toList 0 BE.out) (And.intro ((hl.setsAt (b:=w.heap.size + 1) zw (stA s (.slice o3 s.f.kids.length c3) (.slice o4 s.store.length c4) (.slice o5 s.out.length c5) (.slice o6 s.k.l.length c6)).toList 0).mono' zB) (And.intro ((hr4.sets (b:=w.heap.size + 1) zw (stA s (.slice o3 s.f.kids.length c3) (.slice o4 s.store.length c4) (.slice o5 s.out.length c5) (.slice o6 s.k.l.length c6)).toList 0).mono zB) (And.intro ((hr5.sets (b:=w.heap.size + 1) zw (stA s (.slice o3 s.f.kids.length c3) (.slice o4 s.store.length c4) (.slice o5 s.out.length c5) (.slice o6 s.k.l.length c6)).toList 0).mono zB) ((hk.sets (b:=w.heap.size + 1) zw (stA s (.slice o3 s.f.kids.length c3) (.slice o4 s.store.length c4) (.slice o5 s.out.length c5) (.slice o6 s.k.l.length c6)).toList 0).mono zB))))))
       clear hl hr4 hr5 hk hb zw zB
       go_wp2_with (first | (refine wpList_store_mid (by rfl) 40 _ _ (by rfl) (w.heap.size + 1) 0 (stA s (.slice o3 s.f.kids.length c3) (.slice o4 s.store.length c4) (.slice o5 s.out.length c5) (.slice o6 s.k.l.length c6)) (by rfl) (by rfl) (OT.out.there (by rfl)) (by kernel_rfl) (by simp [Value.oneCell']) ?_) | fail)
       revert HK
       generalize World.setCells _ _ _ _=WW
       intro HK
       refine zab (by rfl) (by rfl) (by rfl) HK.out.1.range Tryz.underlying40 (by rfl) (by kernel_rfl) rfl ?_
       rw [EE.out.1,EE.out.2]
       exact ⟨_,_,_,_,rfl,⟨.inr HK.out.2.2.1,.inr HK.out.2.2.2.1,.inr HK.out.2.2.2.2.1,.inr HK.out.2.2.2.2.2⟩,HK.out.2.1⟩
end Go.Proofs.YtodfhabkdaiopaaGreat
