/- Joined: RefList, PMay, ItemA, ItemB0. -/
import Derived.Test.YtodfhabkdaiopaaGreatJ04
import Derived.Test.YtodfhabkdaiopaaGreatJ02
import Derived.Deep.CutBlock
import Derived.Deep.DeepCutAuto
import Derived.Test.YtodfhabkdaiopaaGreatRows
import Derived.WalkKit
import Derived.WalkSpells
import Derived.WalkLawsBesides
import Derived.Lib.Hide
import Derived.Test.YtodfhabkdaiopaaGreatJ01
namespace Go.Proofs.YtodfhabkdaiopaaGreat
set_option linter.unusedVariables false
set_option linter.unusedSimpArgs false
set_option maxRecDepth 100000
set_option maxHeartbeats 8000000
open Go.RowKit
theorem y05h {p:Prop} (h:p):Go.RowKit.Hid p:=Lib.hid h
def FRel (F:Nat→List Itm) (len:Nat) (w:World) (lv iv:Value) (wr:World):Prop :=
 ∃ (k:Nat) (sv:Value),k≤len∧iv=.int .i64 k∧sv=lv∧Hid (OwnI wr w.heap.size (F k) sv)∧Hid (Below w.heap.size w wr)
def neB (id:ByteArray) (i:Itm):Bool:=!(i.id.toList == id.toList)
theorem zjw {p:Itm→Bool} {l:List Itm} {k:Nat} {i:Itm} (h:l[k]?=some i) (hp:p i=true):(l.take (k + 1)).filter p=(l.take k).filter p ++ [i]:=by
 rw [zfg h,List.filter_append];simp [hp]
theorem zh5 {p:Itm→Bool} {l:List Itm} {k:Nat} {i:Itm} (h:l[k]?=some i) (hp:p i=false):(l.take (k + 1)).filter p=(l.take k).filter p:=by
 rw [zfg h,List.filter_append];simp [hp]
theorem zjv {p:Itm→Bool} {l:List Itm} {k:Nat}:((l.take k).filter p).length≤k:=Nat.le_trans (List.length_filter_le _ _) (by rw [List.length_take];omega)
theorem ze2 (l:List Itm) (id:ByteArray) (v:Value) (w:World) (hR:Row 8 ic w l v) (hlen:l.length≤10000) :
   Calls Tryz.prog 72 #[v,.string id] w fun e w'=>∃ v',e=.returned v'∧OwnI w' w.heap.size (l.filter (neB id)) v'∧Below w.heap.size w w':=by
 obtain ⟨oa,cap,b,o,rfl,hr⟩:=hR
 obtain ⟨i0,hi,hz0,hz1,hz2⟩:=info_parts zct
 have HR:=y05h hr
 have hcap:=hr.len
 have hmax:=hr.max
 unfold maxLen at hmax
 clear hr
 generalize hn:l.length=len at *
 have HN:=y05h hn
 clear hn
 go_enter Tryz.func72,Tryz.ntmps72
 go_wp2_with fail
 go_loopw [5,6] (fun lv iv wr=>FRel (fun k=>(l.take k).filter (neB id)) len w lv iv wr) (fun _ iv _=>len - (intOf iv).toNat)
 case atStart=>exact ⟨0,_,Nat.zero_le _,rfl,rfl,by unfold Hid;exact OwnI.nil _ _,Below.refl _ _⟩
 case round =>
   obtain ⟨k,sv,hk,rfl,rfl,HO,HB⟩:=hrel
   replace HO:=y05h (show OwnI wr w.heap.size ((l.take k).filter (neB id)) sv from HO.out)
   by_cases hlt:k < len
   · obtain ⟨i,hi9⟩:∃ i,l[k]?=some i:=⟨_,List.getElem?_eq_getElem (by rw [HN.out];exact hlt)⟩
     obtain ⟨rfl,hb0⟩:=HR.out.at0 (by rw [HN.out];omega)
     obtain ⟨c0,c1,c2,c3,c4,c5,c6,c7⟩:=zbe (w:=wr) (fun j u hu=>(HB.out.cell (p:=⟨b,o + k * 8 + j,none⟩) hb0).trans (HR.out.cell k i hi9 j u hu))
     have zb:=Nat.lt_of_lt_of_le hb0 HB.out.size
     have zw:=HB.out.size
     have HI:=y05h hi9
     clear hi9
     cases ht:(i.id.toList == id.toList)
     · have hp:neB id i=true:=by unfold neB;rw [ht];rfl
       have hfl:=zjv (p:=neB id) (l:=l) (k:=k)
       have HF:=y05h (zjw (p:=neB id) HI.out hp)
       have HO3:=y05h (HO.out.alloc (.cells #[.string i.id,.int .i64 i.r,.int .i64 i.c,.int .i64 i.st,.string i.kd,.int .i64 i.num,.complex .f64 i.x i.y,.bool i.d] 58))
       have HB3:=y05h (HB.out.alloc zw (.cells #[.string i.id,.int .i64 i.r,.int .i64 i.c,.int .i64 i.st,.string i.kd,.int .i64 i.num,.complex .f64 i.x i.y,.bool i.d] 58))
       have hown:(wr.alloc (.cells #[.string i.id,.int .i64 i.r,.int .i64 i.c,.int .i64 i.st,.string i.kd,.int .i64 i.num,.complex .f64 i.x i.y,.bool i.d] 58)).ownsRow w.heap.size 58 8 sv ((l.take k).filter (neB id)).length (zay ((l.take k).filter (neB id))):=HO3.out
       clear hp
       go_wp2_with (at_builtin;refine wpList_append_lies _ (by rfl) _ _ _ (by rfl) w.heap.size 58 i0 _ 8 88 Tryz.underlying33 hi hz0 hz1 hz2 rfl (by omega) sv ((l.take k).filter (neB id)).length (zay ((l.take k).filter (neB id))) (by rfl) hown ⟨wr.heap.size,0,none⟩ 1 1 (ic i) (by rfl) (by rfl) ziy (zea i) (by omega) (by unfold maxLen;omega) (by omega) (by simp;omega) (wr.heap.size + 1) (by simp) ?_;intro g cap' w3 hown3 hgrow hat hlt3)
       have R1:=y05h (OwnI.push hown3 rfl)
       have R2:=y05h (zbh HO3.out HB3.out (Nat.le_refl _) hgrow HB3.out.size)
       clear hown hown3 hgrow hat
       go_roundw
       case rel=>exact ⟨k + 1,_,by omega,by go_num,rfl,y05h (by show OwnI _ _ ((l.take (k + 1)).filter (neB id)) _;rw [HF.out];exact R1.out),R2⟩
       case measure=>simp [intOf];omega
     · have HF:=y05h (zh5 (p:=neB id) HI.out (by unfold neB;rw [ht];rfl))
       go_wp2_with fail
       go_roundw
       case rel=>exact ⟨k + 1,_,by omega,by go_num,rfl,y05h (by show OwnI _ _ ((l.take (k + 1)).filter (neB id)) _;rw [HF.out];exact HO.out),HB⟩
       case measure=>simp [intOf];omega
   · have e:len=k:=by omega
     subst e
     have h1:=HO.out
     rw [List.take_of_length_le (by rw [HN.out];omega)] at h1
     have H1:=y05h h1
     clear h1
     go_wp2_with fail
     go_ret
     exact ⟨_,rfl,H1.out,HB.out⟩
def getI (l:List Itm) (id:ByteArray):Itm × Bool:=match l.find? (fun i=>i.id.toList == id.toList) with
 | some i=>(i,true)
 | none=>(Itm.zero,false)
theorem zys {p:Itm→Bool} {l:List Itm} {k:Nat} {i:Itm} (h:l[k]?=some i) (hp:p i=true) (hn:∀ j x,j < k→l[j]?=some x→p x=false):l.find? p=some i:=by
 induction l generalizing k with
 | nil=>simp at h
 | cons a l ih =>
   cases k with
   | zero=>simp at h;subst h;simp [List.find?_cons,hp]
   | succ k =>
     simp at h
     have:=hn 0 a (by omega) rfl
     rw [List.find?_cons,this]
     exact ih h fun j x hj hx=>hn (j + 1) x (by omega) (by simpa using hx)
theorem zyt {p:Itm→Bool} {l:List Itm} (hn:∀ j x,j < l.length→l[j]?=some x→p x=false):l.find? p=none:=by
 rw [List.find?_eq_none]
 intro x hx
 obtain ⟨j,hj,e⟩:=List.mem_iff_getElem.1 hx
 have:=hn j x hj (by rw [List.getElem?_eq_getElem hj,e])
 simp [this]
def GRel (l:List Itm) (id:ByteArray) (len:Nat) (w:World) (iv:Value) (wr:World):Prop :=
 ∃ k:Nat,k≤len∧iv=.int .i64 k∧Hid (∀ j x,j < k→l[j]?=some x→(x.id.toList == id.toList)=false)∧Hid (Own wr w.heap.size #[.string ⟨#[]⟩,.int .i64 0,.int .i64 0,.int .i64 0,.string ⟨#[]⟩,.int .i64 0,.complex .f64 0 0,.bool false] 58)∧Hid (Below w.heap.size w wr)
theorem zeh (l:List Itm) (id:ByteArray) (v:Value) (w:World) (hR:Row 8 ic w l v) :
   Calls Tryz.prog 19 #[v,.string id] w fun e w'=>e=.returned (.tuple #[iV (getI l id).1,.bool (getI l id).2])∧Below w.heap.size w w':=by
 obtain ⟨oa,cap,b,o,rfl,hr⟩:=hR
 have HR:=y05h hr
 have hcap:=hr.len
 have hmax:=hr.max
 unfold maxLen at hmax
 clear hr
 generalize hg:getI l id=gg at *
 have HG:=y05h hg
 clear hg
 generalize hn:l.length=len at *
 have HN:=y05h hn
 clear hn
 go_enter Tryz.func19,Tryz.ntmps19
 go_wp2_with fail
 go_loopw [6] (fun iv wr=>GRel l id len w iv wr) (fun iv _=>len - (intOf iv).toNat)
 case atStart=>exact ⟨0,Nat.zero_le _,rfl,fun j x hj=>absurd hj (by omega),by unfold Hid;exact Own.new _ _ _,by unfold Hid;exact (Below.refl _ _).alloc (Nat.le_refl _) _⟩
 case round =>
   obtain ⟨k,hk,rfl,HS,HO,HB⟩:=hrel
   by_cases hlt:k < len
   · obtain ⟨i,hi9⟩:∃ i,l[k]?=some i:=⟨_,List.getElem?_eq_getElem (by rw [HN.out];exact hlt)⟩
     obtain ⟨rfl,hb0⟩:=HR.out.at0 (by rw [HN.out];omega)
     obtain ⟨c0,c1,c2,c3,c4,c5,c6,c7⟩:=zbe (w:=wr) (fun j u hu=>(HB.out.cell (p:=⟨b,o + k * 8 + j,none⟩) hb0).trans (HR.out.cell k i hi9 j u hu))
     have zb:=Nat.lt_of_lt_of_le hb0 HB.out.size
     have HI:=y05h hi9
     clear hi9
     cases ht:(i.id.toList == id.toList)
     · have HS2:=y05h (show ∀ j x,j < k + 1→l[j]?=some x→(x.id.toList == id.toList)=false from fun j x hj hx=>by
         by_cases e:j=k
         · subst e;rw [HI.out] at hx;cases hx;exact ht
         · exact HS.out j x (by omega) hx)
       go_wp2_with fail
       go_roundw
       case rel=>exact ⟨k + 1,by omega,by go_num,HS2.out,HO,HB⟩
       case measure=>simp [intOf];omega
     · have E:=y05h (show gg=(i,true) by rw [← HG.out];unfold getI;rw [zys HI.out ht HS.out])
       have l1:=HO.out.cell
       have f1:=HO.out.free
       have z1:=HO.out.lt
       have hne:b ≠ w.heap.size:=by omega
       go_wp2_with fail
       clear ht
       -- found
       have key:=And.intro (zbr HO.out (.string i.id) (.int .i64 i.r) (.int .i64 i.c) (.int .i64 i.st) (.string i.kd) (.int .i64 i.num) (.complex .f64 i.x i.y) (.bool i.d)) (za5 (b:=w.heap.size) HB.out (Nat.le_refl _) (.string i.id) (.int .i64 i.r) (.int .i64 i.c) (.int .i64 i.st) (.string i.kd) (.int .i64 i.num) (.complex .f64 i.x i.y) (.bool i.d))
       clear l1 f1 z1 c0 c1 c2 c3 c4 c5 c6 c7
       unfold st8 at key
       revert key
       generalize World.setCell (World.setCell (World.setCell (World.setCell (World.setCell (World.setCell (World.setCell (World.setCell _ _ _) _ _) _ _) _ _) _ _) _ _) _ _) _ _=WW
       rintro ⟨of,bf⟩
       have lf:=of.cell
       refine bodyPost_ret (v:=.tuple #[iV i,.bool true]) (by simp [results,Tryz.results19,go_sem,lf,Itm.zero]) rfl ⟨by rw [E.out],bf⟩
   · have E:=y05h (show gg=(Itm.zero,false) by
       rw [← HG.out];unfold getI
       rw [zyt (fun j x hj hx=>HS.out j x (by rw [HN.out] at hj;omega) hx)])
     have l1:=HO.out.cell
     have f1:=HO.out.free
     have z1:=HO.out.lt
     go_wp2_with fail
     have key:=And.intro (zbr HO.out (.string ⟨#[]⟩) (.int .i64 0) (.int .i64 0) (.int .i64 0) (.string ⟨#[]⟩) (.int .i64 0) (.complex .f64 0 0) (.bool false)) (za5 (b:=w.heap.size) HB.out (Nat.le_refl _) (.string ⟨#[]⟩) (.int .i64 0) (.int .i64 0) (.int .i64 0) (.string ⟨#[]⟩) (.int .i64 0) (.complex .f64 0 0) (.bool false))
     clear l1 f1 z1
     unfold st8 at key
     revert key
     generalize World.setCell (World.setCell (World.setCell (World.setCell (World.setCell (World.setCell (World.setCell (World.setCell _ _ _) _ _) _ _) _ _) _ _) _ _) _ _) _ _=WW
     rintro ⟨of,bf⟩
     have lf:=of.cell
     refine bodyPost_ret (v:=.tuple #[iV Itm.zero,.bool false]) (by simp [results,Tryz.results19,go_sem,lf,Itm.zero]) rfl ⟨by rw [E.out],bf⟩
def putI (l:List Itm) (x:Itm):List Itm:=(l.filter (fun i=>lsB i.id x.id) ++ [x]) ++ l.filter (fun i=>gtB i.id x.id)
def zsu (F:Nat→List Itm) (len:Nat) (X:Array Value) (w:World) (lv iv:Value) (wr:World):Prop :=
 ∃ (k:Nat) (sv:Value),k≤len∧iv=.int .i64 k∧sv=lv∧Hid (OwnI wr (w.heap.size + 1) (F k) sv)∧Hid (Own wr w.heap.size X 58)∧Hid (Below w.heap.size w wr)
theorem zei (l:List Itm) (x:Itm) (v:Value) (w:World) (hR:Row 8 ic w l v) (hlen:l.length≤10000) :
   Calls Tryz.prog 106 #[v,iV x] w fun e w'=>∃ v',e=.returned v'∧OwnI w' w.heap.size (putI l x) v'∧Below w.heap.size w w':=by
 obtain ⟨oa,cap,b,o,rfl,hr⟩:=hR
 obtain ⟨i0,hi,hz0,hz1,hz2⟩:=info_parts zct
 have HR:=y05h hr
 have hcap:=hr.len
 have hmax:=hr.max
 unfold maxLen at hmax
 clear hr
 generalize hn:l.length=len at *
 have HN:=y05h hn
 clear hn
 go_enter Tryz.func106,Tryz.ntmps106
 go_wp2_with fail
 go_loopw [5,6] (fun lv iv wr=>zsu (fun k=>(l.take k).filter (fun i=>lsB i.id x.id)) len #[.string x.id,.int .i64 x.r,.int .i64 x.c,.int .i64 x.st,.string x.kd,.int .i64 x.num,.complex .f64 x.x x.y,.bool x.d] w lv iv wr) (fun _ iv _=>len - (intOf iv).toNat)
 case atStart=>exact ⟨0,_,Nat.zero_le _,rfl,rfl,by unfold Hid;exact OwnI.nil _ _,by unfold Hid;exact Own.new _ _ _,by unfold Hid;exact (Below.refl _ _).alloc (Nat.le_refl _) _⟩
 case round =>
   obtain ⟨k,sv,hk,rfl,rfl,HO,HX,HB⟩:=hrel
   replace HO:=y05h (show OwnI wr (w.heap.size + 1) ((l.take k).filter (fun i=>lsB i.id x.id)) sv from HO.out)
   by_cases hlt:k < len
   · obtain ⟨i,hi9⟩:∃ i,l[k]?=some i:=⟨_,List.getElem?_eq_getElem (by rw [HN.out];exact hlt)⟩
     obtain ⟨rfl,hb0⟩:=HR.out.at0 (by rw [HN.out];omega)
     obtain ⟨c0,c1,c2,c3,c4,c5,c6,c7⟩:=zbe (w:=wr) (fun j u hu=>(HB.out.cell (p:=⟨b,o + k * 8 + j,none⟩) hb0).trans (HR.out.cell k i hi9 j u hu))
     have zb:=Nat.lt_of_lt_of_le hb0 HB.out.size
     have r0:=fun dd os=>cell_regrown c0 dd os
     have LA:=fun dd os o=>HX.out.has.regrown dd os o
     have zw:=HB.out.size
     have HI:=y05h hi9
     have zx:=HX.out.lt
     have hk0:(0:Int)≤(k:Int):=by omega
     have hk1:(k:Int) < (len:Int):=by omega
     clear c0 c1 c2 c3 c4 c5 c6 c7 hi9
     cases ht:lsB i.id x.id
     · have HF:=y05h (zh5 (p:=(fun i=>lsB i.id x.id)) HI.out ht)
       have hg:=ht
       unfold lsB at hg
       go_wp2_with fail
       refine wp_region_quiet_below (by kernel_rfl) (by kernel_rfl) ?_
       repeat (first | go_big_quiet_step (fail) | quiet_step (fail))
       refine wpQuiet_nil ?_
       intro w7 hw'
       have hb':=y05h (zag hw')
       clear hw'
       clear r0 LA
       have HO7:=y05h (HO.out.later hb'.out)
       have HX7:=y05h (HX.out.later hb'.out)
       have HB7:=y05h (HB.out.trans (hb'.out.mono HB.out.size))
       go_wp2_with fail
       go_roundw
       case rel=>exact ⟨k + 1,_,by omega,by go_num,rfl,y05h (by show OwnI _ _ ((l.take (k + 1)).filter (fun i=>lsB i.id x.id)) _;rw [HF.out];exact HO7.out),HX7,HB7⟩
       case measure=>simp [intOf];omega
     · have HF:=y05h (zjw (p:=(fun i=>lsB i.id x.id)) HI.out ht)
       have hg:=ht
       unfold lsB at hg
       have hfl:((l.take k).filter (fun i=>lsB i.id x.id)).length≤20001:=by
         have h1:=zjv (p:=(fun i=>lsB i.id x.id)) (l:=l) (k:=k)
         have h2:=List.length_filter_le (fun i=>lsB i.id x.id) l
         have h3:=HN.out
         try simp only [List.length_append,List.length_cons,List.length_nil] at *
         omega
       obtain ⟨nk,hnk⟩:∃ nk,nk=((l.take k).filter (fun i=>lsB i.id x.id)).length:=⟨_,rfl⟩
       rw [← hnk] at hfl
       go_wp2_with fail
       refine wp_region_quiet_below (by kernel_rfl) (by kernel_rfl) ?_
       repeat (first | go_big_quiet_step (fail) | quiet_step (fail))
       refine wpQuiet_nil ?_
       intro w7 hw'
       have hb':=y05h (zag hw')
       clear hw'
       clear r0 LA
       have HO7:=y05h (HO.out.later hb'.out)
       have HX7:=y05h (HX.out.later hb'.out)
       have HB7:=y05h (HB.out.trans (hb'.out.mono HB.out.size))
       have zw7:=HB7.out.size
       have zx7:=HX7.out.lt
       obtain ⟨d0,d1,d2,d3,d4,d5,d6,d7⟩:=zbe (w:=w7) (fun j u hu=>(HB7.out.cell (p:=⟨b,o + k * 8 + j,none⟩) hb0).trans (HR.out.cell k i HI.out j u hu))
       have zb7:=Nat.lt_of_lt_of_le hb0 HB7.out.size
       have HO3:=y05h (HO7.out.alloc (.cells #[.string i.id,.int .i64 i.r,.int .i64 i.c,.int .i64 i.st,.string i.kd,.int .i64 i.num,.complex .f64 i.x i.y,.bool i.d] 58))
       have HX3:=y05h (HX7.out.alloc (.cells #[.string i.id,.int .i64 i.r,.int .i64 i.c,.int .i64 i.st,.string i.kd,.int .i64 i.num,.complex .f64 i.x i.y,.bool i.d] 58))
       have HB3:=y05h (HB7.out.alloc zw7 (.cells #[.string i.id,.int .i64 i.r,.int .i64 i.c,.int .i64 i.st,.string i.kd,.int .i64 i.num,.complex .f64 i.x i.y,.bool i.d] 58))
       have hown:(w7.alloc (.cells #[.string i.id,.int .i64 i.r,.int .i64 i.c,.int .i64 i.st,.string i.kd,.int .i64 i.num,.complex .f64 i.x i.y,.bool i.d] 58)).ownsRow (w.heap.size + 1) 58 8 sv nk (zay ((l.take k).filter (fun i=>lsB i.id x.id))):=by rw [hnk];exact HO3.out
       have HNK:=y05h hnk
       clear hnk
       go_wp2_with (at_builtin;refine wpList_append_lies _ (by rfl) _ _ _ (by rfl) (w.heap.size + 1) 58 i0 _ 8 88 Tryz.underlying33 hi hz0 hz1 hz2 rfl (by omega) sv nk (zay ((l.take k).filter (fun i=>lsB i.id x.id))) (by rfl) hown ⟨w7.heap.size,0,none⟩ 1 1 (ic i) (by rfl) (by rfl) ziy (zea i) (by omega) (by unfold maxLen;omega) (by omega) (by simp;omega) (w7.heap.size + 1) (by simp) ?_;intro g cap' w3 hown3 hgrow hat hlt3)
       have R1:=y05h (OwnI.push hown3 (by rw [HNK.out]))
       have R2:=y05h (zbh HO3.out HB3.out (by omega) hgrow HB3.out.size)
       have R3:=y05h (HX3.out.grown hgrow (zbx HO3.out (by omega)))
       clear hown hown3 hgrow hat
       go_roundw
       case rel=>exact ⟨k + 1,_,by omega,by go_num,rfl,y05h (by show OwnI _ _ ((l.take (k + 1)).filter (fun i=>lsB i.id x.id)) _;rw [HF.out];first | exact R1.out | (rw [← List.append_assoc];exact R1.out)),R3,R2⟩
       case measure=>simp [intOf];omega
   · have e:len=k:=by omega
     subst e
     have h1:=HO.out
     rw [List.take_of_length_le (by rw [HN.out];omega)] at h1
     have HO:=y05h h1
     clear h1
     have l1:=HX.out.cell
     have zx:=HX.out.lt
     have zw:=HB.out.size
     have hfl:(l.filter (fun i=>lsB i.id x.id)).length≤10000:=by
       have h2:=List.length_filter_le (fun i=>lsB i.id x.id) l
       have h3:=HN.out
       omega
     have HO3:=y05h (HO.out.alloc (.cells #[.string x.id,.int .i64 x.r,.int .i64 x.c,.int .i64 x.st,.string x.kd,.int .i64 x.num,.complex .f64 x.x x.y,.bool x.d] 58))
     have HX3:=y05h (HX.out.alloc (.cells #[.string x.id,.int .i64 x.r,.int .i64 x.c,.int .i64 x.st,.string x.kd,.int .i64 x.num,.complex .f64 x.x x.y,.bool x.d] 58))
     have HB3:=y05h (HB.out.alloc zw (.cells #[.string x.id,.int .i64 x.r,.int .i64 x.c,.int .i64 x.st,.string x.kd,.int .i64 x.num,.complex .f64 x.x x.y,.bool x.d] 58))
     have hown:(wr.alloc (.cells #[.string x.id,.int .i64 x.r,.int .i64 x.c,.int .i64 x.st,.string x.kd,.int .i64 x.num,.complex .f64 x.x x.y,.bool x.d] 58)).ownsRow (w.heap.size + 1) 58 8 sv (l.filter (fun i=>lsB i.id x.id)).length (zay (l.filter (fun i=>lsB i.id x.id))):=HO3.out
     go_wp2_with (at_builtin;refine wpList_append_lies _ (by rfl) _ _ _ (by rfl) (w.heap.size + 1) 58 i0 _ 8 88 Tryz.underlying33 hi hz0 hz1 hz2 rfl (by omega) sv (l.filter (fun i=>lsB i.id x.id)).length (zay (l.filter (fun i=>lsB i.id x.id))) (by rfl) hown ⟨wr.heap.size,0,none⟩ 1 1 (ic x) (by rfl) (by rfl) ziy (zea x) (by omega) (by unfold maxLen;omega) (by omega) (by simp;omega) (wr.heap.size + 1) (by simp) ?_;intro g cap' w3 hown3 hgrow hat hlt3)
     have R1:=y05h (OwnI.push hown3 rfl)
     have R2:=y05h (zbh HO3.out HB3.out (by omega) hgrow HB3.out.size)
     have R3:=y05h (HX3.out.grown hgrow (zbx HO3.out (by omega)))
     clear hown hown3 hgrow hat l1 HO HX HB HO3 HX3 HB3
     go_wp2_with fail
     go_loopw [5,7] (fun lv iv wr=>zsu (fun k=>(l.filter (fun i=>lsB i.id x.id) ++ [x]) ++ (l.take k).filter (fun i=>gtB i.id x.id)) len #[.string x.id,.int .i64 x.r,.int .i64 x.c,.int .i64 x.st,.string x.kd,.int .i64 x.num,.complex .f64 x.x x.y,.bool x.d] w lv iv wr) (fun _ iv _=>len - (intOf iv).toNat)
     case atStart=>exact ⟨0,_,Nat.zero_le _,rfl,rfl,y05h (by simpa using R1.out),R3,R2⟩
     case round =>
       obtain ⟨k,sv,hk,rfl,rfl,HO,HX,HB⟩:=hrel
       replace HO:=y05h (show OwnI wr (w.heap.size + 1) ((l.filter (fun i=>lsB i.id x.id) ++ [x]) ++ (l.take k).filter (fun i=>gtB i.id x.id)) sv from HO.out)
       by_cases hlt:k < len
       · obtain ⟨i,hi9⟩:∃ i,l[k]?=some i:=⟨_,List.getElem?_eq_getElem (by rw [HN.out];exact hlt)⟩
         obtain ⟨rfl,hb0⟩:=HR.out.at0 (by rw [HN.out];omega)
         obtain ⟨c0,c1,c2,c3,c4,c5,c6,c7⟩:=zbe (w:=wr) (fun j u hu=>(HB.out.cell (p:=⟨b,o + k * 8 + j,none⟩) hb0).trans (HR.out.cell k i hi9 j u hu))
         have zb:=Nat.lt_of_lt_of_le hb0 HB.out.size
         have r0:=fun dd os=>cell_regrown c0 dd os
         have LA:=fun dd os o=>HX.out.has.regrown dd os o
         have zw:=HB.out.size
         have HI:=y05h hi9
         have zx:=HX.out.lt
         have hk0:(0:Int)≤(k:Int):=by omega
         have hk1:(k:Int) < (len:Int):=by omega
         clear c0 c1 c2 c3 c4 c5 c6 c7 hi9
         cases ht:gtB i.id x.id
         · have HF:=y05h (zh5 (p:=(fun i=>gtB i.id x.id)) HI.out ht)
           have hg:=ht
           unfold gtB at hg
           go_wp2_with fail
           refine wp_region_quiet_below (by kernel_rfl) (by kernel_rfl) ?_
           repeat (first | go_big_quiet_step (fail) | quiet_step (fail))
           refine wpQuiet_nil ?_
           intro w7 hw'
           have hb':=y05h (zag hw')
           clear hw'
           clear r0 LA
           have HO7:=y05h (HO.out.later hb'.out)
           have HX7:=y05h (HX.out.later hb'.out)
           have HB7:=y05h (HB.out.trans (hb'.out.mono HB.out.size))
           go_wp2_with fail
           go_roundw
           case rel=>exact ⟨k + 1,_,by omega,by go_num,rfl,y05h (by show OwnI _ _ ((l.filter (fun i=>lsB i.id x.id) ++ [x]) ++ (l.take (k + 1)).filter (fun i=>gtB i.id x.id)) _;rw [HF.out];exact HO7.out),HX7,HB7⟩
           case measure=>simp [intOf];omega
         · have HF:=y05h (zjw (p:=(fun i=>gtB i.id x.id)) HI.out ht)
           have hg:=ht
           unfold gtB at hg
           have hfl:((l.filter (fun i=>lsB i.id x.id) ++ [x]) ++ (l.take k).filter (fun i=>gtB i.id x.id)).length≤20001:=by
             have h1:=zjv (p:=(fun i=>gtB i.id x.id)) (l:=l) (k:=k)
             have h2:=List.length_filter_le (fun i=>lsB i.id x.id) l
             have h3:=HN.out
             try simp only [List.length_append,List.length_cons,List.length_nil] at *
             omega
           obtain ⟨nk,hnk⟩:∃ nk,nk=((l.filter (fun i=>lsB i.id x.id) ++ [x]) ++ (l.take k).filter (fun i=>gtB i.id x.id)).length:=⟨_,rfl⟩
           rw [← hnk] at hfl
           go_wp2_with fail
           refine wp_region_quiet_below (by kernel_rfl) (by kernel_rfl) ?_
           repeat (first | go_big_quiet_step (fail) | quiet_step (fail))
           refine wpQuiet_nil ?_
           intro w7 hw'
           have hb':=y05h (zag hw')
           clear hw'
           clear r0 LA
           have HO7:=y05h (HO.out.later hb'.out)
           have HX7:=y05h (HX.out.later hb'.out)
           have HB7:=y05h (HB.out.trans (hb'.out.mono HB.out.size))
           have zw7:=HB7.out.size
           have zx7:=HX7.out.lt
           obtain ⟨d0,d1,d2,d3,d4,d5,d6,d7⟩:=zbe (w:=w7) (fun j u hu=>(HB7.out.cell (p:=⟨b,o + k * 8 + j,none⟩) hb0).trans (HR.out.cell k i HI.out j u hu))
           have zb7:=Nat.lt_of_lt_of_le hb0 HB7.out.size
           have HO3:=y05h (HO7.out.alloc (.cells #[.string i.id,.int .i64 i.r,.int .i64 i.c,.int .i64 i.st,.string i.kd,.int .i64 i.num,.complex .f64 i.x i.y,.bool i.d] 58))
           have HX3:=y05h (HX7.out.alloc (.cells #[.string i.id,.int .i64 i.r,.int .i64 i.c,.int .i64 i.st,.string i.kd,.int .i64 i.num,.complex .f64 i.x i.y,.bool i.d] 58))
           have HB3:=y05h (HB7.out.alloc zw7 (.cells #[.string i.id,.int .i64 i.r,.int .i64 i.c,.int .i64 i.st,.string i.kd,.int .i64 i.num,.complex .f64 i.x i.y,.bool i.d] 58))
           have hown:(w7.alloc (.cells #[.string i.id,.int .i64 i.r,.int .i64 i.c,.int .i64 i.st,.string i.kd,.int .i64 i.num,.complex .f64 i.x i.y,.bool i.d] 58)).ownsRow (w.heap.size + 1) 58 8 sv nk (zay ((l.filter (fun i=>lsB i.id x.id) ++ [x]) ++ (l.take k).filter (fun i=>gtB i.id x.id))):=by rw [hnk];exact HO3.out
           have HNK:=y05h hnk
           clear hnk
           go_wp2_with (at_builtin;refine wpList_append_lies _ (by rfl) _ _ _ (by rfl) (w.heap.size + 1) 58 i0 _ 8 88 Tryz.underlying33 hi hz0 hz1 hz2 rfl (by omega) sv nk (zay ((l.filter (fun i=>lsB i.id x.id) ++ [x]) ++ (l.take k).filter (fun i=>gtB i.id x.id))) (by rfl) hown ⟨w7.heap.size,0,none⟩ 1 1 (ic i) (by rfl) (by rfl) ziy (zea i) (by omega) (by unfold maxLen;omega) (by omega) (by simp;omega) (w7.heap.size + 1) (by simp) ?_;intro g cap' w3 hown3 hgrow hat hlt3)
           have R1:=y05h (OwnI.push hown3 (by rw [HNK.out]))
           have R2:=y05h (zbh HO3.out HB3.out (by omega) hgrow HB3.out.size)
           have R3:=y05h (HX3.out.grown hgrow (zbx HO3.out (by omega)))
           clear hown hown3 hgrow hat
           go_roundw
           case rel=>exact ⟨k + 1,_,by omega,by go_num,rfl,y05h (by show OwnI _ _ ((l.filter (fun i=>lsB i.id x.id) ++ [x]) ++ (l.take (k + 1)).filter (fun i=>gtB i.id x.id)) _;rw [HF.out];first | exact R1.out | (rw [← List.append_assoc];exact R1.out)),R3,R2⟩
           case measure=>simp [intOf];omega
       · have e:len=k:=by omega
         subst e
         have h1:=HO.out
         rw [List.take_of_length_le (by rw [HN.out];omega)] at h1
         have HO:=y05h h1
         clear h1
         go_wp2_with fail
         go_ret
         exact ⟨_,rfl,HO.out.mono (by omega),HB.out⟩
theorem zjb (name:String) (b:Nat) (s:Bool) (m:Nat) (i:Int) (h:FloatKind.f64.decode b=.number s m i) :
   Extern.MathFloor.toIntegral name .zero #[.float .f64 b]=pure (.float .f64 (FloatKind.f64.encode ((Ieee.Datum.number s m i).integral .zero))):=by
 have key:∀ d,FloatKind.f64.decode b=d→Extern.MathFloor.toIntegral name .zero #[.float .f64 b] =
     (match d with
     | .nan s t=>if FloatKind.f64.format.quiet t=t then pure (.float .f64 b) else do
       let kept ← choose (.extern "math.Floor,Ceil,Trunc,RoundToEven.signallingNaN kept" 2)
       pure (.float .f64 (if kept == 1 then b else FloatKind.f64.encode (.nan s (FloatKind.f64.format.quiet t))))
     | d=>pure (.float .f64 (FloatKind.f64.encode (d.integral .zero)))):=by
   intro d hd;subst hd;rfl
 exact key _ h
theorem zuz (b:Nat) (w:World) (hl:Fl.geLo b=true) (hh:Fl.leHi b=true) :
   (callFunc 251 #[.float .f64 b]).run Tryz.prog w=.ok (.value (.float .f64 (Fl.trunc b))) w:=by
 rw [run_callFunc_extern (e:=Extern.MathFloor.toIntegral "math.archTrunc" .zero) Tryz.func251 (by kernel_rfl) (by kernel_rfl) (by kernel_rfl) (by kernel_rfl)]
 obtain ⟨s,m,e,hr,hm⟩:=Fl.finite_of_range hl hh
 rw [zjb _ b s m _ hr]
 unfold Fl.trunc
 rw [hr]
 rfl
theorem zqf (b:Nat) (w:World) (hl:Fl.geLo b=true) (hh:Fl.leHi b=true) :
   Calls Tryz.prog 241 #[.float .f64 b] w fun e w'=>e=.returned (.float .f64 (Fl.trunc b))∧w=w':=by
 have h:=zuz b w hl hh
 go_enter Tryz.func241,Tryz.ntmps241
 go_wp2
 go_ret
 exact ⟨rfl,rfl⟩
theorem inR (b:Nat):(FloatKind.f64.format.order b 13875379345695965184 == some .gt || FloatKind.f64.format.order b 13875379345695965184 == some .eq)=Fl.geLo b:=rfl
theorem inH (b:Nat):(FloatKind.f64.format.order b 4652007308841189376 == some .lt || FloatKind.f64.format.order b 4652007308841189376 == some .eq)=Fl.leHi b:=rfl
theorem inT (b:Nat) (hl:Fl.geLo b=true) (hh:Fl.leHi b=true):(FloatKind.f64.format.order b (Fl.trunc b) == some .eq)=Fl.wb b:=by
 simp only [Fl.wb,hl,hh,Bool.true_and];rfl
theorem zqh (b:Nat) (w:World) :
   Calls Tryz.prog 227 #[.float .f64 b] w fun e w'=>e=.returned (.bool (Fl.wb b))∧w=w':=by
 have e1:=inR b
 have e2:=inH b
 cases hl:Fl.geLo b
 · rw [show Fl.wb b=false by simp [Fl.wb,hl]]
   rw [hl] at e1
   go_enter Tryz.func227,Tryz.ntmps227
   go_wp2
   go_ret
   exact ⟨rfl,rfl⟩
 · cases hh:Fl.leHi b
   · rw [show Fl.wb b=false by simp [Fl.wb,hh]]
     rw [hl] at e1
     rw [hh] at e2
     go_enter Tryz.func227,Tryz.ntmps227
     go_wp2
     go_ret
     exact ⟨rfl,rfl⟩
   · have e3:=inT b hl hh
     rw [hl] at e1
     rw [hh] at e2
     generalize Fl.wb b=r at *
     have c:=zqf b w hl hh
     have C:=y05h c
     clear c hl hh
     go_enter Tryz.func227,Tryz.ntmps227
     go_wp2_with (go_at_call 241;refine (C.out).mono ?_;rintro e w' ⟨rfl,rfl⟩)
     go_ret
     exact ⟨rfl,rfl⟩
theorem zr5 (b:Nat) (w:World) :
   Calls Tryz.prog 204 #[.float .f64 b] w fun e w'=>e=.returned (.bool (Fl.wb b))∧w=w':=by
 have e1:=inR b
 have e2:=inH b
 cases hl:Fl.geLo b
 · rw [show Fl.wb b=false by simp [Fl.wb,hl]]
   rw [hl] at e1
   go_enter Tryz.func204,Tryz.ntmps204
   go_wp2
   go_ret
   exact ⟨rfl,rfl⟩
 · cases hh:Fl.leHi b
   · rw [show Fl.wb b=false by simp [Fl.wb,hh]]
     rw [hl] at e1
     rw [hh] at e2
     go_enter Tryz.func204,Tryz.ntmps204
     go_wp2
     go_ret
     exact ⟨rfl,rfl⟩
   · have e3:(FloatKind.f64.format.order (floatOfInt .f64 (Fl.iv b)) b == some .eq)=Fl.wb b :=
       Fl.back_wb hl hh (Fl.ofInt_int (by have:=(Fl.trunc_int hl hh).2;omega))
     have c1:=run_convert_float_int (P:=Tryz.prog) w 22 3 .f64 .i64 b (Fl.iv b) (by kernel_rfl) (by kernel_rfl) (Fl.toInt_range hl hh)
     have c2:=run_convert_int_float (P:=Tryz.prog) w 3 22 .i64 .f64 (Fl.iv b) (by kernel_rfl) (by kernel_rfl)
     rw [hl] at e1
     rw [hh] at e2
     generalize Fl.wb b=r at *
     generalize Fl.iv b=n at *
     clear hl hh
     go_enter Tryz.func204,Tryz.ntmps204
     go_wp2
     go_ret
     exact ⟨rfl,rfl⟩
def mayB (a b:Nat):Bool:=Fl.wb a && Fl.wb b
theorem zdj (a b:Nat) (w:World) :
   Calls Tryz.prog 190 #[.complex .f64 a b] w fun e w'=>e=.returned (.bool (mayB a b))∧w=w':=by
 have H:=fun x=>y05h (zqh x w)
 unfold mayB
 cases ha:Fl.wb a <;> cases hb:Fl.wb b <;>
 ( go_enter Tryz.func190,Tryz.ntmps190
   go_wp2_with (go_at_call 227;refine ((H _).out).mono ?_;(try rw [ha]);(try rw [hb]);rintro e w' ⟨rfl,rfl⟩)
   go_ret
   exact ⟨rfl,rfl⟩ )
theorem zey (a b:Nat) (w:World) :
   Calls Tryz.prog 145 #[.complex .f64 a b] w fun e w'=>e=.returned (.bool (mayB a b))∧w=w':=by
 have H:=fun x=>y05h (zr5 x w)
 unfold mayB
 cases ha:Fl.wb a <;> cases hb:Fl.wb b <;>
 ( go_enter Tryz.func145,Tryz.ntmps145
   go_wp2_with (go_at_call 204;refine ((H _).out).mono ?_;(try rw [ha]);(try rw [hb]);rintro e w' ⟨rfl,rfl⟩)
   go_ret
   exact ⟨rfl,rfl⟩ )
def low (c:UInt8):Bool:=decide (97≤c.toNat) && decide (c.toNat≤122)
def lows (l:List UInt8):Bool:=l.all low
def txtB (s:ByteArray):Bool:=decide (s.size≤8) && lows s.data.toList
def zbd (s:ByteArray):Bool:=decide (1≤s.size) && txtB s
def feq (x y:Nat):Bool:=FloatKind.f64.format.order x y == some .eq
theorem zgu {x:Nat} (h:Fl.wb x=true):feq x x=true:=by
 have h1:=(Fl.wb_int h).1
 have h2:=Fl.order_int h1 h1
 unfold feq
 have h3:FloatKind.f64.format.order x x=some (compare (Fl.iv x) (Fl.iv x)):=h2
 rw [h3]
 simp
theorem zt8 {c:UInt8} (h1:97≤c.toNat) (h2:c.toNat≤122):low c=true:=by simp [low,h1,h2]
theorem zk3 {c:UInt8} (h:c.toNat < 97):low c=false:=by simp [low];omega
theorem zk2 {c:UInt8} (h:122 < c.toNat):low c=false:=by simp [low];omega
theorem zim (s:ByteArray) (k:Nat) (h:k < s.size):s.data.toList.take (k + 1)=s.data.toList.take k ++ [s[k]]:=by
 rw [List.take_succ_eq_append_getElem (by simpa using h)];rfl
theorem zmo (s:ByteArray) (k:Nat) (h:k < s.size) (hl:lows (s.data.toList.take k)=true):lows (s.data.toList.take (k + 1))=low s[k]:=by
 rw [zim s k h]
 unfold lows at *
 rw [List.all_append,hl];simp
theorem zky (s:ByteArray) (k:Nat) (h:k < s.size) (hl:low s[k]=false):lows s.data.toList=false:=by
 unfold lows
 rw [List.all_eq_false]
 refine ⟨s[k],?_,by rw [hl];simp⟩
 have h':k < s.data.size:=h
 show s.data[k]∈s.data.toList
 exact Array.mem_toList_iff.2 (Array.getElem_mem h')
theorem zos (s:ByteArray) (h:lows (s.data.toList.take s.size)=true):lows s.data.toList=true:=by
 rwa [List.take_of_length_le (by simp)] at h
theorem zlk (s:ByteArray) (w:World) :
   Calls Tryz.prog 187 #[.string s] w fun e w'=>e=.returned (.bool (txtB s))∧w=w':=by
 by_cases h8:s.size≤8
 · have e:txtB s=lows s.data.toList:=by simp [txtB,h8]
   rw [e]
   have h9:¬ (8:Int) < s.size:=by omega
   clear e
   go_enter Tryz.func187,Tryz.ntmps187
   go_wp2
   go_loop [3,9] (fun _ i=>∃ k:Nat,k≤s.size∧i=.int .i64 k∧lows (s.data.toList.take k)=true) (fun _ i=>s.size - (intOf i).toNat)
   case atStart=>exact ⟨0,Nat.zero_le _,rfl,by simp [lows]⟩
   case round =>
     obtain ⟨k,hk,rfl,hl⟩:=hrel
     by_cases hlt:k < s.size
     · have hn:=zmo s k hlt hl
       have HN:=y05h hn
       have HF:=y05h (zky s k hlt)
       clear hn
       have HL:=y05h hl
       clear hl
       by_cases a1:s[k].toNat < 97
       · have hz:=HF.out (zk3 a1)
         have HZ:=y05h hz
         clear hz HF HN
         go_wp2
         go_ret
         exact ⟨zac HZ.out.symm,rfl⟩
       · by_cases a2:122 < s[k].toNat
         · have hz:=HF.out (zk2 a2)
           have HZ:=y05h hz
           clear hz HF HN
           go_wp2
           go_ret
           exact ⟨zac HZ.out.symm,rfl⟩
         · have hz:=HN.out
           rw [zt8 (by omega) (by omega)] at hz
           have HZ:=y05h hz
           clear hz HF HN
           go_wp2
           go_round
           case rel=>exact ⟨k + 1,by omega,by go_num,HZ.out⟩
           case measure=>simp [intOf];omega
     · have e:k=s.size:=by omega
       subst e
       have HL:=y05h (zos s hl)
       clear hl
       go_wp2
       go_ret
       exact ⟨zac HL.out.symm,rfl⟩
 · have e:txtB s=false:=by simp [txtB,h8]
   rw [e]
   have h9:(8:Int) < s.size:=by omega
   go_enter Tryz.func187,Tryz.ntmps187
   go_wp2
   go_ret
   exact ⟨rfl,rfl⟩
theorem z0s {s:ByteArray} (h8:s.size≤8):txtB s=lows s.data.toList:=by simp [txtB,h8]
theorem zzf {s:ByteArray} (h8:8 < s.size):txtB s=false:=by simp [txtB];omega
theorem zu7 {s:ByteArray} (h:lows s.data.toList=false):txtB s=false:=by simp [txtB,h]
theorem zhn (s:ByteArray) (n:Int) (w:World) (hs:s.size≤maxLen) :
   Calls Tryz.prog 160 #[.string s,.int .i64 n] w fun e w'=>e=.returned (.bool (txtB s && decide (n≤s.size)))∧w=w':=by
 unfold maxLen at hs
 go_enter Tryz.func160,Tryz.ntmps160
 go_wp2
 go_loop [5] (fun i=>∃ k:Nat,k≤s.size∧k≤8∧i=.int .i64 k∧lows (s.data.toList.take k)=true) (fun i=>s.size - (intOf i).toNat)
 case atStart=>exact ⟨0,Nat.zero_le _,by omega,rfl,by simp [lows]⟩
 case round =>
   obtain ⟨k,hk,hk8,rfl,hl⟩:=hrel
   by_cases hlt:k < s.size
   · by_cases h8:k=8
     · subst h8
       have HZ:=y05h (zzf hlt)
       have HL:=y05h hl
       clear hl
       go_wp2
       go_ret
       exact ⟨zac (by rw [HZ.out];rfl),rfl⟩
     · have hn:=zmo s k hlt hl
       have HN:=y05h hn
       have HF:=y05h (zky s k hlt)
       clear hn
       have HL:=y05h hl
       clear hl
       have g8:((k:Int) == 8)=false:=by rw [beq_eq_false_iff_ne];omega
       by_cases a1:s[k].toNat < 97
       · have HZ:=y05h (zu7 (HF.out (zk3 a1)))
         clear HF HN
         go_wp2
         go_ret
         exact ⟨zac (by rw [HZ.out];rfl),rfl⟩
       · by_cases a2:122 < s[k].toNat
         · have HZ:=y05h (zu7 (HF.out (zk2 a2)))
           clear HF HN
           go_wp2
           go_ret
           exact ⟨zac (by rw [HZ.out];rfl),rfl⟩
         · have hz:=HN.out
           rw [zt8 (by omega) (by omega)] at hz
           have HZ:=y05h hz
           clear hz HF HN
           have hk9:k + 1≤8:=by omega
           clear h8 g8
           have g8:((k:Int) == 8)=false:=by rw [beq_eq_false_iff_ne];omega
           go_wp2
           go_round
           case rel=>exact ⟨k + 1,by omega,hk9,by go_num,HZ.out⟩
           case measure=>simp [intOf];omega
   · have e:k=s.size:=by omega
     subst e
     have HL:=y05h (zos s hl)
     have HT:=y05h (z0s hk8)
     clear hl
     go_wp2
     go_ret
     exact ⟨zac (by rw [HT.out,HL.out];simp),rfl⟩
theorem zhx (s:ByteArray) (h:s.size=0):s=⟨#[]⟩:=by
 cases s with
 | mk d=>have:d.size=0:=h;rw [Array.size_eq_zero_iff.1 this]
theorem zg3 (s:ByteArray) (w:World) :
   Calls Tryz.prog 151 #[.string s] w fun e w'=>e=.returned (.bool (zbd s))∧w=w':=by
 have H:=y05h (zlk s w)
 by_cases h:s.size=0
 · have e:=zhx s h
   subst e
   go_enter Tryz.func151,Tryz.ntmps151
   go_wp2
   go_ret
   exact ⟨zac rfl,rfl⟩
 · have e:zbd s=txtB s:=by simp [zbd];omega
   rw [e]
   clear e
   have h1:s.toList ≠ []:=by
     intro hz
     exact h (by have:=congrArg List.length hz;rw [zjl] at this;simpa using this)
   have h2:s.toList.isEmpty=false:=by rw [List.isEmpty_eq_false_iff];exact h1
   generalize txtB s=r at *
   clear h
   go_enter Tryz.func151,Tryz.ntmps151
   go_wp2_with (go_at_call 187;refine (H.out).mono ?_;rintro e w' ⟨rfl,rfl⟩)
   go_ret
   exact ⟨rfl,rfl⟩
theorem zhu (s:ByteArray) (w:World) (hs:s.size≤maxLen) :
   Calls Tryz.prog 144 #[.string s] w fun e w'=>e=.returned (.bool (txtB s))∧w=w':=by
 have H:=y05h (zhn s 0 w hs)
 have e:txtB s=(txtB s && decide ((0:Int)≤s.size)):=by
   have:(0:Int)≤s.size:=by omega
   simp
 rw [e]
 clear e
 generalize (txtB s && decide ((0:Int)≤s.size))=r at *
 go_enter Tryz.func144,Tryz.ntmps144
 go_wp2_with (go_at_call 160;refine (H.out).mono ?_;rintro e w' ⟨rfl,rfl⟩)
 go_ret
 exact ⟨rfl,rfl⟩
end Go.Proofs.YtodfhabkdaiopaaGreat
