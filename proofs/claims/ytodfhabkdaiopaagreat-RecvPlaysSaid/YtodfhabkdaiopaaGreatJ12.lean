/- Joined: StK, ListKM, Begins, SizeB. -/
import Derived.Test.YtodfhabkdaiopaaGreatJ01
import Derived.Deep.MidRow
import Derived.Laws.ResultCell
import Derived.Test.YtodfhabkdaiopaaGreatJ11
import Derived.Test.YtodfhabkdaiopaaGreatJ10
import Derived.Deep.CutBlock
import Derived.Deep.DeepCutAuto
namespace Go.Proofs.YtodfhabkdaiopaaGreat
set_option linter.unusedVariables false
set_option linter.unusedSimpArgs false
set_option maxRecDepth 100000
set_option maxHeartbeats 8000000
open Go.RowKit
def zez (c:Array Value) (o:Nat):List Value→Array Value
 | []=>c
 | v :: r=>zez (c.setIfInBounds o v) (o + 1) r
theorem zqc (vs:List Value):∀ (c:Array Value) (o:Nat),(zez c o vs).size=c.size:=by
 induction vs with
 | nil=>intro c o;rfl
 | cons v r ih=>intro c o;rw [zez,ih];simp
theorem zsh (vs:List Value):∀ (c:Array Value) (o j:Nat),j < c.size→(zez c o vs)[j]?=if o≤j∧j < o + vs.length then vs[j - o]? else c[j]?:=by
 induction vs with
 | nil=>intro c o j hj;rw [zez,if_neg (by simp only [List.length_nil];omega)]
 | cons v r ih =>
   intro c o j hj
   rw [zez,ih _ _ _ (by simpa using hj)]
   by_cases e:j=o
   · subst e
     rw [if_neg (by omega),if_pos (by simp)]
     simp [hj]
   · by_cases h:o + 1≤j∧j < o + 1 + r.length
     · rw [if_pos h,if_pos (by simp only [List.length_cons];omega)]
       rw [show j - o=(j - (o + 1)) + 1 by omega,List.getElem?_cons_succ]
     · rw [if_neg h,if_neg (by simp only [List.length_cons];omega)]
       rw [Array.getElem?_setIfInBounds_ne (fun h'=>e h'.symm)]
theorem zsg (c:Array Value) (vs:List Value) (h:vs.length=c.size):zez c 0 vs=vs.toArray:=by
 apply Array.ext_getElem?
 intro j
 by_cases hj:j < c.size
 · rw [zsh vs c 0 j hj,if_pos (by omega)];simp
 · rw [Array.getElem?_eq_none (by rw [zqc];omega),Array.getElem?_eq_none (by simp;omega)]
theorem Own.setsAt {b:Nat} {t:TypeId} (vs:List Value):∀ {w:World} {c:Array Value} (o:Nat),Own w b c t→Own (w.setCells b o vs) b (zez c o vs) t:=by
 induction vs with
 | nil=>intro w c o h;exact h
 | cons v r ih=>intro w c o h;exact ih (o + 1) (h.set o v)
theorem Own.sets {w:World} {b:Nat} {c:Array Value} {t:TypeId} (h:Own w b c t) (vs:List Value) (hl:vs.length=c.size):Own (w.setCells b 0 vs) b vs.toArray t:=by
 rw [← zsg c vs hl];exact h.setsAt vs 0
theorem Own.setsFar {b b':Nat} {t:TypeId} {c:Array Value} (vs:List Value):∀ {w:World} (o:Nat),b' ≠ b→Own w b' c t→Own (w.setCells b o vs) b' c t:=by
 induction vs with
 | nil=>intro w o _ h;exact h
 | cons v r ih=>intro w o hb h;exact ih (o + 1) hb (h.setFar _ _ hb)
theorem zaa {b B:Nat} {a:World} (hB:B≤b) (vs:List Value):∀ {w:World} (o:Nat),Below B a w→Below B a (w.setCells b o vs):=by
 induction vs with
 | nil=>intro w o h;exact h
 | cons v r ih=>intro w o h;exact ih (o + 1) (h.setCell hB v)
theorem Own.there {w:World} {b:Nat} {c:Array Value} {t:TypeId} (h:Own w b c t) {n:Nat} (hn:n=c.size):w.there b 0 n:=fun j hj=>by
 rw [Nat.zero_add,h.cell j]
 exact ⟨by rw [Array.getElem?_eq_getElem (by omega)];rfl,h.free j⟩
theorem Own.range {w:World} {b:Nat} {l:List Value} {t:TypeId} (h:Own w b l.toArray t):w.rangeAt b 0 l:=fun j v hv=>by
 rw [Nat.zero_add,h.cell j];simpa using hv
theorem zle {P:Program} (a:Addr) (w:World):(asAddr (.pointer (some a))).run P w=.ok a w:=by simp [asAddr]
theorem zab {P:Program} {fn:Func} {R:Ending→World→Prop} {a:Act} {w:World} {p u:Tmp} {ty:TypeId} {b:Nat} {l:List Value} {x:Value} {d:TypeDesc} (h:fn.results=#[.cell p ty,.tmp u])
   (hp:a.tmps.getD p undef=.pointer (some ⟨b,0,none⟩)) (hx:a.tmps.getD u undef=x) (hc:w.rangeAt b 0 l) (hu:P.underlying ty=some d) (hd:d.isRow=true) (hi:(P.info? ty).map (·.size)=some l.length)
   (hdf:a.defers=[]) (hR:R (.returned (.tuple #[.agg l.toArray,x])) w):bodyPost P fn R .ret a w :=
 bodyPost_ret (by rw [results_cell_tmp h,hp,hx,zle];simp only [Result.andThen_ok];rw [run_loadVar_mid w b 0 ty l d hc hu hd hi];rfl) hdf hR
theorem zbm {P:Program} {fn:Func} {R:Ending→World→Prop} {a:Act} {w:World} {p:Tmp} {ty:TypeId} {b:Nat} {l:List Value} {d:TypeDesc} (h:fn.results=#[.cell p ty])
   (hp:a.tmps.getD p undef=.pointer (some ⟨b,0,none⟩)) (hc:w.rangeAt b 0 l) (hu:P.underlying ty=some d) (hd:d.isRow=true) (hi:(P.info? ty).map (·.size)=some l.length)
   (hdf:a.defers=[]) (hR:R (.returned (.agg l.toArray)) w):bodyPost P fn R .ret a w :=
 bodyPost_ret (by
   have e:=run_loadVar_mid (P:=P) w b 0 ty l d hc hu hd hi
   have hp2:a.tmps[p]?.getD undef=.pointer (some ⟨b,0,none⟩):=by rw [← hp];simp
   simp only [results,h]
   simp [Sem.run_bind,hp2,zle,e]) hdf hR
theorem mayLB_iff {l:List Itm}:zdc l=true ↔ (∀ i∈l,mayT i=true)∧zap l:=by
 unfold zdc
 rw [Bool.and_eq_true,zlc,List.all_eq_true]
theorem zlw {l:List Itm} {x:Itm} (h:zdc l=true) (hx:mayT x=true):zdc (putI l x)=true:=by
 rw [mayLB_iff] at *
 refine ⟨fun i hi=>?_,zeq h.2⟩
 rcases zed hi with h1 | h1
 · exact h.1 i h1
 · rw [h1];exact hx
theorem zcv {l:List Itm} {p:Itm→Bool} (h:zdc l=true):zdc (l.filter p)=true:=by
 rw [mayLB_iff] at *
 exact ⟨fun i hi=>h.1 i (List.mem_filter.1 hi).1,zbg h.2⟩
theorem zd8 {i:Itm} (h:mayT i=true):eqT i i=true:=zvt (zeo h).1 (zeo h).2
def Ways (same:Bool) (had kept all other:Itm) (was is there beside:Bool):Prop :=
 (was=false∧is=false∧beside=false∧there=false) ∨
 (was=true∧beside=false∧there=true∧all=had∧eqT had had=true∧((same=true∧is=false) ∨ (same=false∧is=true∧kept=had))) ∨
 (was=false∧is=false∧beside=true∧there=true∧all=other∧eqT other other=true) ∨
 (was=true∧beside=true∧there=true∧eqT had had=true∧eqT other other=true∧((behT other had=true∧all=other) ∨ (behT other had=false∧all=had))∧((same=true∧is=false) ∨ (same=false∧is=true∧kept=had)))
theorem ways {a b:List Itm} {c:Itm} (ha:zdc a=true) (hb:zdc b=true) (id:ByteArray) :
   Ways (id.toList == c.id.toList) (getI a id).1 (getI ((putI a c).filter (neB c.id)) id).1 (getI (zar behT a b) id).1 (getI b id).1 (getI a id).2 (getI ((putI a c).filter (neB c.id)) id).2 (getI (zar behT a b) id).2 (getI b id).2:=by
 rw [mayLB_iff] at ha hb
 have hd:getI ((putI a c).filter (neB c.id)) id=if id=c.id then (Itm.zero,false) else getI a id:=by
   rw [zv2 (zeq ha.2)]
   split
   · rfl
   · rename_i h;rw [zlr ha.2,if_neg h]
 rw [hd,zjx b id ha.2 hb.2]
 have e2:(id.toList == c.id.toList)=decide (id=c.id):=by
   cases h:(id.toList == c.id.toList)
   · rw [decide_eq_false (tl_ne.1 h)]
   · rw [decide_eq_true (tl_eq.1 h)]
 rw [e2]
 unfold Ways
 rcases zco a id with ⟨i,hi,_,e⟩ | ⟨_,e⟩ <;> rcases zco b id with ⟨j,hj,_,e'⟩ | ⟨_,e'⟩ <;> rw [e,e'] <;> by_cases hq:id=c.id
 · cases h:behT j i <;> simp [hq,h,zd8 (ha.1 i hi),zd8 (hb.1 j hj)]
 · cases h:behT j i <;> simp [hq,h,zd8 (ha.1 i hi),zd8 (hb.1 j hj)]
 · simp [hq,zd8 (ha.1 i hi)]
 · simp [hq,zd8 (ha.1 i hi)]
 · simp [hq,zd8 (hb.1 j hj)]
 · simp [hq,zd8 (hb.1 j hj)]
 · simp [hq]
 · simp [hq]
theorem RowAt.take {sz:Nat} {f:Itm→List Value} {w:World} {l:List Itm} {oa:Option Addr} {cap b o:Nat} (h:RowAt sz f w l oa cap b o) (k:Nat):RowAt sz f w (l.take k) oa cap b o:=by
 refine ⟨by rw [List.length_take];have:=h.len;omega,h.max,fun h0=>h.at0 (by rw [List.length_take] at h0;omega),fun j i hj=>?_,fun i hi=>h.ok i (List.mem_of_mem_take hi)⟩
 rw [List.getElem?_take] at hj
 split at hj
 · exact h.cell j i hj
 · cases hj
theorem Row.take {sz:Nat} {f:Itm→List Value} {w:World} {l:List Itm} {oa:Option Addr} {n cap:Nat} (h:Row sz f w l (.slice oa n cap)) (k:Nat):Row sz f w (l.take k) (.slice oa (l.take k).length cap):=by
 obtain ⟨oa',cap',b,o,e,hr⟩:=h
 cases e
 exact ⟨oa,cap,b,o,rfl,hr.take k⟩
theorem Row.cap {sz:Nat} {f:Itm→List Value} {w:World} {l:List Itm} {oa:Option Addr} {n cap:Nat} (h:Row sz f w l (.slice oa n cap)):l.length≤cap∧cap≤maxLen:=by
 obtain ⟨oa',cap',b,o,e,hr⟩:=h
 cases e
 exact ⟨hr.len,hr.max⟩
theorem zs0 {s t:ByteArray} {k:Nat} (h1:s.size≤k) (h2:k < t.size):begB s t=false:=by
 unfold begB
 cases h:t.data.toList.isPrefixOf s.data.toList with
 | false=>rfl
 | true =>
   have h3:=(List.isPrefixOf_iff_prefix.1 h).length_le
   have e1:t.data.toList.length=t.size:=by simp
   have e2:s.data.toList.length=s.size:=by simp
   omega
theorem zvh {s t:ByteArray} {k:Nat} (hs:k < s.size) (ht:k < t.size) (h:s.data.toList.take k=t.data.toList.take k) (e:s[k]=t[k]):s.data.toList.take (k + 1)=t.data.toList.take (k + 1):=by
 rw [zim s k hs,zim t k ht,h,e]
theorem zvg {s t:ByteArray} {k:Nat} (hs:k < s.size) (ht:k < t.size) (e:s[k] ≠ t[k]):begB s t=false:=by
 unfold begB
 cases h:t.data.toList.isPrefixOf s.data.toList with
 | false=>rfl
 | true =>
   obtain ⟨r,hr⟩:=List.isPrefixOf_iff_prefix.1 h
   have e1:s.data.toList[k]?=t.data.toList[k]?:=by
     rw [← hr,List.getElem?_append_left (by simpa using ht)]
   have e2:s.data.toList[k]?=some s[k]:=by
     rw [List.getElem?_eq_getElem (by simpa using hs)];rfl
   have e3:t.data.toList[k]?=some t[k]:=by
     rw [List.getElem?_eq_getElem (by simpa using ht)];rfl
   rw [e2,e3] at e1
   exact absurd (Option.some.inj e1) e
theorem zyf {s t:ByteArray} (h:s.data.toList.take t.size=t.data.toList.take t.size):begB s t=true:=by
 unfold begB
 rw [List.isPrefixOf_iff_prefix]
 have e:t.data.toList.take t.size=t.data.toList:=List.take_of_length_le (by simp)
 rw [e] at h
 exact ⟨s.data.toList.drop t.size,by rw [← h];exact List.take_append_drop _ _⟩
theorem znr (s t:ByteArray) (w:World) (hs:s.size≤maxLen) (ht:t.size≤maxLen) :
   Calls Tryz.prog 104 #[.string s,.string t] w fun e w'=>e=.returned (.bool (begB s t))∧Below w.heap.size w w':=by
 unfold maxLen at hs ht
 go_enter Tryz.func104,Tryz.ntmps104
 go_wp2_with fail
 go_loopw [5] (fun i wr=>∃ k:Nat,k≤t.size∧i=.int .i64 k∧Hid (s.data.toList.take k=t.data.toList.take k)∧Below w.heap.size w wr) (fun i _=>t.size - (intOf i).toNat)
 case atStart=>exact ⟨0,Nat.zero_le _,rfl,by simp [Hid],Below.refl _ _⟩
 case round =>
   obtain ⟨k,hk,rfl,HS,hb⟩:=hrel
   have HB:=Lib.hid hb
   clear hb
   by_cases hlt:k < t.size
   · by_cases hls:k < s.size
     · have d1:decide ((s.size:Int)≤(k:Int))=false:=by simp;omega
       have k0:(0:Int)≤(k:Int):=by omega
       have k1:(k:Int) < (s.size:Int):=by omega
       have k2:(k:Int) < (t.size:Int):=by omega
       by_cases e:s[k]=t[k]
       · have HN:=Lib.hid (zvh hls hlt HS.out e)
         have d2:((s[k].toNat:Int) != (t[k].toNat:Int))=false:=by rw [e];simp
         clear e
         go_wp2_with fail
         refine wp_region_quiet_below (by kernel_rfl) (by kernel_rfl) ?_
         repeat (first | go_big_quiet_step (fail) | quiet_step (fail))
         refine wpQuiet_nil ?_
         intro w7 hw'
         have hb':=Lib.hid (zag hw')
         clear hw'
         go_wp2_with fail
         go_roundw
         case rel=>exact ⟨k + 1,by omega,by go_num,HN.out,HB.out.trans (hb'.out.mono HB.out.size)⟩
         case measure=>simp [intOf];omega
       · have HZ:=Lib.hid (zvg hls hlt e)
         have d2:((s[k].toNat:Int) != (t[k].toNat:Int))=true:=by
           rw [bne_iff_ne];intro h;exact e (UInt8.toNat_inj.1 (by omega))
         clear e
         go_wp2_with fail
         refine wp_region_quiet_below (by kernel_rfl) (by kernel_rfl) ?_
         repeat (first | go_big_quiet_step (fail) | quiet_step (fail))
         refine wpQuiet_nil ?_
         intro w7 hw'
         have hb':=Lib.hid (zag hw')
         clear hw'
         go_wp2_with fail
         go_ret
         exact ⟨zac HZ.out.symm,HB.out.trans (hb'.out.mono HB.out.size)⟩
     · have d1:decide ((s.size:Int)≤(k:Int))=true:=by simp;omega
       have HZ:=Lib.hid (zs0 (s:=s) (t:=t) (k:=k) (by omega) hlt)
       go_wp2_with fail
       refine wp_region_quiet_below (by kernel_rfl) (by kernel_rfl) ?_
       repeat (first | go_big_quiet_step (fail) | quiet_step (fail))
       refine wpQuiet_nil ?_
       intro w7 hw'
       have hb':=Lib.hid (zag hw')
       clear hw'
       go_wp2_with fail
       go_ret
       exact ⟨zac HZ.out.symm,HB.out.trans (hb'.out.mono HB.out.size)⟩
   · have e:k=t.size:=by omega
     subst e
     have HZ:=Lib.hid (zyf HS.out)
     go_wp2_with fail
     go_ret
     exact ⟨zac HZ.out.symm,HB.out⟩
def zsw (l:List Pr) (len:Nat) (f:List Pr→Nat) (w0:World) (n i:Value) (wr:World):Prop :=
 ∃ (k s:Nat),k≤len∧i=.int .i64 k∧n=.int .i64 s∧s≤1000∧Hid (s=f (l.take k))∧Below w0.heap.size w0 wr
theorem zao {sz:Nat} {c:Pr→Value→List Value} {S:Nat→Prop} {w:World} {p:Pr} {v:Value} (h:Lies sz c S w p v):∃ oa cap,v=.slice oa p.kids.length cap:=by
 obtain ⟨oa,cap,_,_,_,rfl,_⟩:=zba h;exact ⟨oa,cap,rfl⟩
end Go.Proofs.YtodfhabkdaiopaaGreat
