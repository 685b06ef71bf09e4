/- Joined: RefList, PMay, ItemA, ItemB0. -/
import Derived.Test.YthnllikalobmeaaGreatK04
import Derived.Test.YthnllikalobmeaaGreatK02
import Derived.Deep.CutBlock
import Derived.Deep.DeepCutAuto
import Derived.Test.YthnllikalobmeaaGreatRows
import Derived.WalkKit
import Derived.WalkSpells
import Derived.WalkLawsBesides
import Derived.Lib.Hide
import Derived.Test.YthnllikalobmeaaGreatK01
namespace Go.Proofs.YthnllikalobmeaaGreat
set_option linter.unusedVariables false
set_option linter.unusedSimpArgs false
set_option maxRecDepth 100000
set_option maxHeartbeats 8000000
open Go.RowKit
theorem y05h {p:Prop} (h:p):Hid p:=Lib.hid h
def FRel (F:Nat → List Itm) (len:Nat) (w:World) (lv iv:Value) (wr:World):Prop :=
 ∃ (k:Nat) (sv:Value),k ≤ len ∧ iv = .int .i64 k ∧ sv = lv ∧ Hid (OwnI wr w.heap.size (F k) sv) ∧ Hid (Below w.heap.size w wr)
def neB (id:ByteArray) (i:Itm):Bool:=!(i.id.toList == id.toList)
theorem zgh {p:Itm → Bool} {l:List Itm} {k:Nat} {i:Itm} (h:l[k]? = some i) (hp:p i = true):(l.take (k + 1)).filter p = (l.take k).filter p ++ [i]:=by
 rw [zd9 h,List.filter_append];simp [hp]
theorem zfc {p:Itm → Bool} {l:List Itm} {k:Nat} {i:Itm} (h:l[k]? = some i) (hp:p i = false):(l.take (k + 1)).filter p = (l.take k).filter p:=by
 rw [zd9 h,List.filter_append];simp [hp]
theorem zgg {p:Itm → Bool} {l:List Itm} {k:Nat}:((l.take k).filter p).length ≤ k:=Nat.le_trans (List.length_filter_le _ _) (by rw [List.length_take];omega)
theorem zg6 (l:List Itm) (id:ByteArray) (v:Value) (w:World) (hR:Row 8 ic w l v) (hlen:l.length ≤ 10000) :
   Calls Tryz.prog 149 #[v,.string id] w fun e w'=>∃ v',e = .returned v' ∧ OwnI w' w.heap.size (l.filter (neB id)) v' ∧ Below w.heap.size w w':=by
 obtain ⟨oa,cap,b,o,rfl,hr⟩:=hR
 obtain ⟨i0,hi,hz0,hz1,hz2⟩:=info_parts zce
 have HR:=y05h hr
 have hcap:=hr.len
 have hmax:=hr.max
 unfold maxLen at hmax
 clear hr
 generalize hn:l.length = len at *
 have HN:=y05h hn
 clear hn
 go_enter Tryz.func149,Tryz.ntmps149
 go_wp2_with fail
 go_loopw [5,6] (fun lv iv wr=>FRel (fun k=>(l.take k).filter (neB id)) len w lv iv wr) (fun _ iv _=>len - (intOf iv).toNat)
 case atStart=>exact ⟨0,_,Nat.zero_le _,rfl,rfl,by unfold Hid;exact OwnI.nil _ _,Below.refl _ _⟩
 case round =>
   obtain ⟨k,sv,hk,rfl,rfl,HO,HB⟩:=hrel
   replace HO:=y05h (show OwnI wr w.heap.size ((l.take k).filter (neB id)) sv from HO.out)
   by_cases hlt:k < len
   · obtain ⟨i,hi9⟩:∃ i,l[k]? = some i:=⟨_,List.getElem?_eq_getElem (by rw [HN.out];exact hlt)⟩
     obtain ⟨rfl,hb0⟩:=HR.out.at0 (by rw [HN.out];omega)
     obtain ⟨c0,c1,c2,c3,c4,c5,c6,c7⟩:=za0 (w:=wr) (fun j u hu=>(HB.out.cell (p:=⟨b,o + k * 8 + j,none⟩) hb0).trans (HR.out.cell k i hi9 j u hu))
     have zb:=Nat.lt_of_lt_of_le hb0 HB.out.size
     have zw:=HB.out.size
     have HI:=y05h hi9
     clear hi9
     cases ht:(i.id.toList == id.toList)
     · have hp:neB id i = true:=by unfold neB;rw [ht];rfl
       have hfl:=zgg (p:=neB id) (l:=l) (k:=k)
       have HF:=y05h (zgh (p:=neB id) HI.out hp)
       have HO3:=y05h (HO.out.alloc (.cells #[.string i.id,.int .i64 i.r,.int .i64 i.c,.int .i64 i.st,.string i.kd,.int .i64 i.num,.complex .f64 i.x i.y,.bool i.d] 69))
       have HB3:=y05h (HB.out.alloc zw (.cells #[.string i.id,.int .i64 i.r,.int .i64 i.c,.int .i64 i.st,.string i.kd,.int .i64 i.num,.complex .f64 i.x i.y,.bool i.d] 69))
       have hown:(wr.alloc (.cells #[.string i.id,.int .i64 i.r,.int .i64 i.c,.int .i64 i.st,.string i.kd,.int .i64 i.num,.complex .f64 i.x i.y,.bool i.d] 69)).ownsRow w.heap.size 69 8 sv ((l.take k).filter (neB id)).length (zat ((l.take k).filter (neB id))):=HO3.out
       clear hp
       go_wp2_with (at_builtin;refine wpList_append_lies _ (by rfl) _ _ _ (by rfl) w.heap.size 69 i0 _ 8 88 Tryz.underlying41 hi hz0 hz1 hz2 rfl (by omega) sv ((l.take k).filter (neB id)).length (zat ((l.take k).filter (neB id))) (by rfl) hown ⟨wr.heap.size,0,none⟩ 1 1 (ic i) (by rfl) (by rfl) zgo (zc7 i) (by omega) (by unfold maxLen;omega) (by omega) (by simp;omega) (wr.heap.size + 1) (by simp) ?_;intro g cap' w3 hown3 hgrow hat hlt3)
       have R1:=y05h (OwnI.push hown3 rfl)
       have R2:=y05h (zba HO3.out HB3.out (Nat.le_refl _) hgrow HB3.out.size)
       clear hown hown3 hgrow hat
       go_roundw
       case rel=>exact ⟨k + 1,_,by omega,by go_num,rfl,y05h (by show OwnI _ _ ((l.take (k + 1)).filter (neB id)) _;rw [HF.out];exact R1.out),R2⟩
       case measure=>simp [intOf];omega
     · have HF:=y05h (zfc (p:=neB id) HI.out (by unfold neB;rw [ht];rfl))
       go_wp2_with fail
       go_roundw
       case rel=>exact ⟨k + 1,_,by omega,by go_num,rfl,y05h (by show OwnI _ _ ((l.take (k + 1)).filter (neB id)) _;rw [HF.out];exact HO.out),HB⟩
       case measure=>simp [intOf];omega
   · have e:len = k:=by omega
     subst e
     have h1:=HO.out
     rw [List.take_of_length_le (by rw [HN.out];omega)] at h1
     have H1:=y05h h1
     clear h1
     go_wp2_with fail
     go_ret
     exact ⟨_,rfl,H1.out,HB.out⟩
def getI (l:List Itm) (id:ByteArray):Itm × Bool:=match l.find? (fun i=>i.id.toList == id.toList) with
 | some i=>(i,true)
 | none=>(Itm.zero,false)
theorem zyn {p:Itm → Bool} {l:List Itm} {k:Nat} {i:Itm} (h:l[k]? = some i) (hp:p i = true) (hn:∀ j x,j < k → l[j]? = some x → p x = false):l.find? p = some i:=by
 induction l generalizing k with
 | nil=>simp at h
 | cons a l ih =>
   cases k with
   | zero=>simp at h;subst h;simp [List.find?_cons,hp]
   | succ k =>
     simp at h
     have:=hn 0 a (by omega) rfl
     rw [List.find?_cons,this]
     exact ih h fun j x hj hx=>hn (j + 1) x (by omega) (by simpa using hx)
theorem zyo {p:Itm → Bool} {l:List Itm} (hn:∀ j x,j < l.length → l[j]? = some x → p x = false):l.find? p = none:=by
 rw [List.find?_eq_none]
 intro x hx
 obtain ⟨j,hj,e⟩:=List.mem_iff_getElem.1 hx
 have:=hn j x hj (by rw [List.getElem?_eq_getElem hj,e])
 simp [this]
def GRel (l:List Itm) (id:ByteArray) (len:Nat) (w:World) (iv:Value) (wr:World):Prop :=
 ∃ k:Nat,k ≤ len ∧ iv = .int .i64 k ∧ Hid (∀ j x,j < k → l[j]? = some x → (x.id.toList == id.toList) = false) ∧ Hid (Own wr w.heap.size #[.string ⟨#[]⟩,.int .i64 0,.int .i64 0,.int .i64 0,.string ⟨#[]⟩,.int .i64 0,.complex .f64 0 0,.bool false] 69) ∧ Hid (Below w.heap.size w wr)
theorem zhz (l:List Itm) (id:ByteArray) (v:Value) (w:World) (hR:Row 8 ic w l v) :
   Calls Tryz.prog 27 #[v,.string id] w fun e w'=>e = .returned (.tuple #[iV (getI l id).1,.bool (getI l id).2]) ∧ Below w.heap.size w w':=by
 obtain ⟨oa,cap,b,o,rfl,hr⟩:=hR
 have HR:=y05h hr
 have hcap:=hr.len
 have hmax:=hr.max
 unfold maxLen at hmax
 clear hr
 generalize hg:getI l id = gg at *
 have HG:=y05h hg
 clear hg
 generalize hn:l.length = len at *
 have HN:=y05h hn
 clear hn
 go_enter Tryz.func27,Tryz.ntmps27
 go_wp2_with fail
 go_loopw [6] (fun iv wr=>GRel l id len w iv wr) (fun iv _=>len - (intOf iv).toNat)
 case atStart=>exact ⟨0,Nat.zero_le _,rfl,fun j x hj=>absurd hj (by omega),by unfold Hid;exact Own.new _ _ _,by unfold Hid;exact (Below.refl _ _).alloc (Nat.le_refl _) _⟩
 case round =>
   obtain ⟨k,hk,rfl,HS,HO,HB⟩:=hrel
   by_cases hlt:k < len
   · obtain ⟨i,hi9⟩:∃ i,l[k]? = some i:=⟨_,List.getElem?_eq_getElem (by rw [HN.out];exact hlt)⟩
     obtain ⟨rfl,hb0⟩:=HR.out.at0 (by rw [HN.out];omega)
     obtain ⟨c0,c1,c2,c3,c4,c5,c6,c7⟩:=za0 (w:=wr) (fun j u hu=>(HB.out.cell (p:=⟨b,o + k * 8 + j,none⟩) hb0).trans (HR.out.cell k i hi9 j u hu))
     have zb:=Nat.lt_of_lt_of_le hb0 HB.out.size
     have HI:=y05h hi9
     clear hi9
     cases ht:(i.id.toList == id.toList)
     · have HS2:=y05h (show ∀ j x,j < k + 1 → l[j]? = some x → (x.id.toList == id.toList) = false from fun j x hj hx=>by
         by_cases e:j = k
         · subst e;rw [HI.out] at hx;cases hx;exact ht
         · exact HS.out j x (by omega) hx)
       go_wp2_with fail
       go_roundw
       case rel=>exact ⟨k + 1,by omega,by go_num,HS2.out,HO,HB⟩
       case measure=>simp [intOf];omega
     · have E:=y05h (show gg = (i,true) by rw [← HG.out];unfold getI;rw [zyn HI.out ht HS.out])
       have l1:=HO.out.cell
       have f1:=HO.out.free
       have z1:=HO.out.lt
       have hne:b ≠ w.heap.size:=by omega
       go_wp2_with fail
       clear ht
       -- found
       have key:=And.intro (zbj HO.out (.string i.id) (.int .i64 i.r) (.int .i64 i.c) (.int .i64 i.st) (.string i.kd) (.int .i64 i.num) (.complex .f64 i.x i.y) (.bool i.d)) (za5 (b:=w.heap.size) HB.out (Nat.le_refl _) (.string i.id) (.int .i64 i.r) (.int .i64 i.c) (.int .i64 i.st) (.string i.kd) (.int .i64 i.num) (.complex .f64 i.x i.y) (.bool i.d))
       clear l1 f1 z1 c0 c1 c2 c3 c4 c5 c6 c7
       unfold st8 at key
       revert key
       generalize World.setCell (World.setCell (World.setCell (World.setCell (World.setCell (World.setCell (World.setCell (World.setCell _ _ _) _ _) _ _) _ _) _ _) _ _) _ _) _ _ = WW
       rintro ⟨of,bf⟩
       have lf:=of.cell
       refine bodyPost_ret (v:=.tuple #[iV i,.bool true]) (by simp [results,Tryz.results27,go_sem,lf,Itm.zero]) rfl ⟨by rw [E.out],bf⟩
   · have E:=y05h (show gg = (Itm.zero,false) by
       rw [← HG.out];unfold getI
       rw [zyo (fun j x hj hx=>HS.out j x (by rw [HN.out] at hj;omega) hx)])
     have l1:=HO.out.cell
     have f1:=HO.out.free
     have z1:=HO.out.lt
     go_wp2_with fail
     have key:=And.intro (zbj HO.out (.string ⟨#[]⟩) (.int .i64 0) (.int .i64 0) (.int .i64 0) (.string ⟨#[]⟩) (.int .i64 0) (.complex .f64 0 0) (.bool false)) (za5 (b:=w.heap.size) HB.out (Nat.le_refl _) (.string ⟨#[]⟩) (.int .i64 0) (.int .i64 0) (.int .i64 0) (.string ⟨#[]⟩) (.int .i64 0) (.complex .f64 0 0) (.bool false))
     clear l1 f1 z1
     unfold st8 at key
     revert key
     generalize World.setCell (World.setCell (World.setCell (World.setCell (World.setCell (World.setCell (World.setCell (World.setCell _ _ _) _ _) _ _) _ _) _ _) _ _) _ _) _ _ = WW
     rintro ⟨of,bf⟩
     have lf:=of.cell
     refine bodyPost_ret (v:=.tuple #[iV Itm.zero,.bool false]) (by simp [results,Tryz.results27,go_sem,lf,Itm.zero]) rfl ⟨by rw [E.out],bf⟩
def putI (l:List Itm) (x:Itm):List Itm:=(l.filter (fun i=>lsB i.id x.id) ++ [x]) ++ l.filter (fun i=>gtB i.id x.id)
def zst (F:Nat → List Itm) (len:Nat) (X:Array Value) (w:World) (lv iv:Value) (wr:World):Prop :=
 ∃ (k:Nat) (sv:Value),k ≤ len ∧ iv = .int .i64 k ∧ sv = lv ∧ Hid (OwnI wr (w.heap.size + 1) (F k) sv) ∧ Hid (Own wr w.heap.size X 69) ∧ Hid (Below w.heap.size w wr)
theorem zdr (l:List Itm) (x:Itm) (v:Value) (w:World) (hR:Row 8 ic w l v) (hlen:l.length ≤ 10000) :
   Calls Tryz.prog 106 #[v,iV x] w fun e w'=>∃ v',e = .returned v' ∧ OwnI w' w.heap.size (putI l x) v' ∧ Below w.heap.size w w':=by
 obtain ⟨oa,cap,b,o,rfl,hr⟩:=hR
 obtain ⟨i0,hi,hz0,hz1,hz2⟩:=info_parts zce
 have HR:=y05h hr
 have hcap:=hr.len
 have hmax:=hr.max
 unfold maxLen at hmax
 clear hr
 generalize hn:l.length = len at *
 have HN:=y05h hn
 clear hn
 go_enter Tryz.func106,Tryz.ntmps106
 go_wp2_with fail
 go_loopw [5,6] (fun lv iv wr=>zst (fun k=>(l.take k).filter (fun i=>lsB i.id x.id)) len #[.string x.id,.int .i64 x.r,.int .i64 x.c,.int .i64 x.st,.string x.kd,.int .i64 x.num,.complex .f64 x.x x.y,.bool x.d] w lv iv wr) (fun _ iv _=>len - (intOf iv).toNat)
 case atStart=>exact ⟨0,_,Nat.zero_le _,rfl,rfl,by unfold Hid;exact OwnI.nil _ _,by unfold Hid;exact Own.new _ _ _,by unfold Hid;exact (Below.refl _ _).alloc (Nat.le_refl _) _⟩
 case round =>
   obtain ⟨k,sv,hk,rfl,rfl,HO,HX,HB⟩:=hrel
   replace HO:=y05h (show OwnI wr (w.heap.size + 1) ((l.take k).filter (fun i=>lsB i.id x.id)) sv from HO.out)
   by_cases hlt:k < len
   · obtain ⟨i,hi9⟩:∃ i,l[k]? = some i:=⟨_,List.getElem?_eq_getElem (by rw [HN.out];exact hlt)⟩
     obtain ⟨rfl,hb0⟩:=HR.out.at0 (by rw [HN.out];omega)
     obtain ⟨c0,c1,c2,c3,c4,c5,c6,c7⟩:=za0 (w:=wr) (fun j u hu=>(HB.out.cell (p:=⟨b,o + k * 8 + j,none⟩) hb0).trans (HR.out.cell k i hi9 j u hu))
     have zb:=Nat.lt_of_lt_of_le hb0 HB.out.size
     have r0:=fun dd os=>cell_regrown c0 dd os
     have LA:=fun dd os o=>HX.out.has.regrown dd os o
     have zw:=HB.out.size
     have HI:=y05h hi9
     have zx:=HX.out.lt
     have hk0:(0:Int) ≤ (k:Int):=by omega
     have hk1:(k:Int) < (len:Int):=by omega
     clear c0 c1 c2 c3 c4 c5 c6 c7 hi9
     cases ht:lsB i.id x.id
     · have HF:=y05h (zfc (p:=(fun i=>lsB i.id x.id)) HI.out ht)
       have hg:=ht
       unfold lsB at hg
       go_wp2_with fail
       refine wp_region_quiet_below (by kernel_rfl) (by kernel_rfl) ?_
       repeat (first | go_big_quiet_step (fail) | quiet_step (fail))
       refine wpQuiet_nil ?_
       intro w7 hw'
       have hb':=y05h (zac hw')
       clear hw'
       clear r0 LA
       have HO7:=y05h (HO.out.later hb'.out)
       have HX7:=y05h (HX.out.later hb'.out)
       have HB7:=y05h (HB.out.trans (hb'.out.mono HB.out.size))
       go_wp2_with fail
       go_roundw
       case rel=>exact ⟨k + 1,_,by omega,by go_num,rfl,y05h (by show OwnI _ _ ((l.take (k + 1)).filter (fun i=>lsB i.id x.id)) _;rw [HF.out];exact HO7.out),HX7,HB7⟩
       case measure=>simp [intOf];omega
     · have HF:=y05h (zgh (p:=(fun i=>lsB i.id x.id)) HI.out ht)
       have hg:=ht
       unfold lsB at hg
       have hfl:((l.take k).filter (fun i=>lsB i.id x.id)).length ≤ 20001:=by
         have h1:=zgg (p:=(fun i=>lsB i.id x.id)) (l:=l) (k:=k)
         have h2:=List.length_filter_le (fun i=>lsB i.id x.id) l
         have h3:=HN.out
         try simp only [List.length_append,List.length_cons,List.length_nil] at *
         omega
       obtain ⟨nk,hnk⟩:∃ nk,nk = ((l.take k).filter (fun i=>lsB i.id x.id)).length:=⟨_,rfl⟩
       rw [← hnk] at hfl
       go_wp2_with fail
       refine wp_region_quiet_below (by kernel_rfl) (by kernel_rfl) ?_
       repeat (first | go_big_quiet_step (fail) | quiet_step (fail))
       refine wpQuiet_nil ?_
       intro w7 hw'
       have hb':=y05h (zac hw')
       clear hw'
       clear r0 LA
       have HO7:=y05h (HO.out.later hb'.out)
       have HX7:=y05h (HX.out.later hb'.out)
       have HB7:=y05h (HB.out.trans (hb'.out.mono HB.out.size))
       have zw7:=HB7.out.size
       have zx7:=HX7.out.lt
       obtain ⟨d0,d1,d2,d3,d4,d5,d6,d7⟩:=za0 (w:=w7) (fun j u hu=>(HB7.out.cell (p:=⟨b,o + k * 8 + j,none⟩) hb0).trans (HR.out.cell k i HI.out j u hu))
       have zb7:=Nat.lt_of_lt_of_le hb0 HB7.out.size
       have HO3:=y05h (HO7.out.alloc (.cells #[.string i.id,.int .i64 i.r,.int .i64 i.c,.int .i64 i.st,.string i.kd,.int .i64 i.num,.complex .f64 i.x i.y,.bool i.d] 69))
       have HX3:=y05h (HX7.out.alloc (.cells #[.string i.id,.int .i64 i.r,.int .i64 i.c,.int .i64 i.st,.string i.kd,.int .i64 i.num,.complex .f64 i.x i.y,.bool i.d] 69))
       have HB3:=y05h (HB7.out.alloc zw7 (.cells #[.string i.id,.int .i64 i.r,.int .i64 i.c,.int .i64 i.st,.string i.kd,.int .i64 i.num,.complex .f64 i.x i.y,.bool i.d] 69))
       have hown:(w7.alloc (.cells #[.string i.id,.int .i64 i.r,.int .i64 i.c,.int .i64 i.st,.string i.kd,.int .i64 i.num,.complex .f64 i.x i.y,.bool i.d] 69)).ownsRow (w.heap.size + 1) 69 8 sv nk (zat ((l.take k).filter (fun i=>lsB i.id x.id))):=by rw [hnk];exact HO3.out
       have HNK:=y05h hnk
       clear hnk
       go_wp2_with (at_builtin;refine wpList_append_lies _ (by rfl) _ _ _ (by rfl) (w.heap.size + 1) 69 i0 _ 8 88 Tryz.underlying41 hi hz0 hz1 hz2 rfl (by omega) sv nk (zat ((l.take k).filter (fun i=>lsB i.id x.id))) (by rfl) hown ⟨w7.heap.size,0,none⟩ 1 1 (ic i) (by rfl) (by rfl) zgo (zc7 i) (by omega) (by unfold maxLen;omega) (by omega) (by simp;omega) (w7.heap.size + 1) (by simp) ?_;intro g cap' w3 hown3 hgrow hat hlt3)
       have R1:=y05h (OwnI.push hown3 (by rw [HNK.out]))
       have R2:=y05h (zba HO3.out HB3.out (by omega) hgrow HB3.out.size)
       have R3:=y05h (HX3.out.grown hgrow (zbp HO3.out (by omega)))
       clear hown hown3 hgrow hat
       go_roundw
       case rel=>exact ⟨k + 1,_,by omega,by go_num,rfl,y05h (by show OwnI _ _ ((l.take (k + 1)).filter (fun i=>lsB i.id x.id)) _;rw [HF.out];first | exact R1.out | (rw [← List.append_assoc];exact R1.out)),R3,R2⟩
       case measure=>simp [intOf];omega
   · have e:len = k:=by omega
     subst e
     have h1:=HO.out
     rw [List.take_of_length_le (by rw [HN.out];omega)] at h1
     have HO:=y05h h1
     clear h1
     have l1:=HX.out.cell
     have zx:=HX.out.lt
     have zw:=HB.out.size
     have hfl:(l.filter (fun i=>lsB i.id x.id)).length ≤ 10000:=by
       have h2:=List.length_filter_le (fun i=>lsB i.id x.id) l
       have h3:=HN.out
       omega
     have HO3:=y05h (HO.out.alloc (.cells #[.string x.id,.int .i64 x.r,.int .i64 x.c,.int .i64 x.st,.string x.kd,.int .i64 x.num,.complex .f64 x.x x.y,.bool x.d] 69))
     have HX3:=y05h (HX.out.alloc (.cells #[.string x.id,.int .i64 x.r,.int .i64 x.c,.int .i64 x.st,.string x.kd,.int .i64 x.num,.complex .f64 x.x x.y,.bool x.d] 69))
     have HB3:=y05h (HB.out.alloc zw (.cells #[.string x.id,.int .i64 x.r,.int .i64 x.c,.int .i64 x.st,.string x.kd,.int .i64 x.num,.complex .f64 x.x x.y,.bool x.d] 69))
     have hown:(wr.alloc (.cells #[.string x.id,.int .i64 x.r,.int .i64 x.c,.int .i64 x.st,.string x.kd,.int .i64 x.num,.complex .f64 x.x x.y,.bool x.d] 69)).ownsRow (w.heap.size + 1) 69 8 sv (l.filter (fun i=>lsB i.id x.id)).length (zat (l.filter (fun i=>lsB i.id x.id))):=HO3.out
     go_wp2_with (at_builtin;refine wpList_append_lies _ (by rfl) _ _ _ (by rfl) (w.heap.size + 1) 69 i0 _ 8 88 Tryz.underlying41 hi hz0 hz1 hz2 rfl (by omega) sv (l.filter (fun i=>lsB i.id x.id)).length (zat (l.filter (fun i=>lsB i.id x.id))) (by rfl) hown ⟨wr.heap.size,0,none⟩ 1 1 (ic x) (by rfl) (by rfl) zgo (zc7 x) (by omega) (by unfold maxLen;omega) (by omega) (by simp;omega) (wr.heap.size + 1) (by simp) ?_;intro g cap' w3 hown3 hgrow hat hlt3)
     have R1:=y05h (OwnI.push hown3 rfl)
     have R2:=y05h (zba HO3.out HB3.out (by omega) hgrow HB3.out.size)
     have R3:=y05h (HX3.out.grown hgrow (zbp HO3.out (by omega)))
     clear hown hown3 hgrow hat l1 HO HX HB HO3 HX3 HB3
     go_wp2_with fail
     go_loopw [5,7] (fun lv iv wr=>zst (fun k=>(l.filter (fun i=>lsB i.id x.id) ++ [x]) ++ (l.take k).filter (fun i=>gtB i.id x.id)) len #[.string x.id,.int .i64 x.r,.int .i64 x.c,.int .i64 x.st,.string x.kd,.int .i64 x.num,.complex .f64 x.x x.y,.bool x.d] w lv iv wr) (fun _ iv _=>len - (intOf iv).toNat)
     case atStart=>exact ⟨0,_,Nat.zero_le _,rfl,rfl,y05h (by simpa using R1.out),R3,R2⟩
     case round =>
       obtain ⟨k,sv,hk,rfl,rfl,HO,HX,HB⟩:=hrel
       replace HO:=y05h (show OwnI wr (w.heap.size + 1) ((l.filter (fun i=>lsB i.id x.id) ++ [x]) ++ (l.take k).filter (fun i=>gtB i.id x.id)) sv from HO.out)
       by_cases hlt:k < len
       · obtain ⟨i,hi9⟩:∃ i,l[k]? = some i:=⟨_,List.getElem?_eq_getElem (by rw [HN.out];exact hlt)⟩
         obtain ⟨rfl,hb0⟩:=HR.out.at0 (by rw [HN.out];omega)
         obtain ⟨c0,c1,c2,c3,c4,c5,c6,c7⟩:=za0 (w:=wr) (fun j u hu=>(HB.out.cell (p:=⟨b,o + k * 8 + j,none⟩) hb0).trans (HR.out.cell k i hi9 j u hu))
         have zb:=Nat.lt_of_lt_of_le hb0 HB.out.size
         have r0:=fun dd os=>cell_regrown c0 dd os
         have LA:=fun dd os o=>HX.out.has.regrown dd os o
         have zw:=HB.out.size
         have HI:=y05h hi9
         have zx:=HX.out.lt
         have hk0:(0:Int) ≤ (k:Int):=by omega
         have hk1:(k:Int) < (len:Int):=by omega
         clear c0 c1 c2 c3 c4 c5 c6 c7 hi9
         cases ht:gtB i.id x.id
         · have HF:=y05h (zfc (p:=(fun i=>gtB i.id x.id)) HI.out ht)
           have hg:=ht
           unfold gtB at hg
           go_wp2_with fail
           refine wp_region_quiet_below (by kernel_rfl) (by kernel_rfl) ?_
           repeat (first | go_big_quiet_step (fail) | quiet_step (fail))
           refine wpQuiet_nil ?_
           intro w7 hw'
           have hb':=y05h (zac hw')
           clear hw'
           clear r0 LA
           have HO7:=y05h (HO.out.later hb'.out)
           have HX7:=y05h (HX.out.later hb'.out)
           have HB7:=y05h (HB.out.trans (hb'.out.mono HB.out.size))
           go_wp2_with fail
           go_roundw
           case rel=>exact ⟨k + 1,_,by omega,by go_num,rfl,y05h (by show OwnI _ _ ((l.filter (fun i=>lsB i.id x.id) ++ [x]) ++ (l.take (k + 1)).filter (fun i=>gtB i.id x.id)) _;rw [HF.out];exact HO7.out),HX7,HB7⟩
           case measure=>simp [intOf];omega
         · have HF:=y05h (zgh (p:=(fun i=>gtB i.id x.id)) HI.out ht)
           have hg:=ht
           unfold gtB at hg
           have hfl:((l.filter (fun i=>lsB i.id x.id) ++ [x]) ++ (l.take k).filter (fun i=>gtB i.id x.id)).length ≤ 20001:=by
             have h1:=zgg (p:=(fun i=>gtB i.id x.id)) (l:=l) (k:=k)
             have h2:=List.length_filter_le (fun i=>lsB i.id x.id) l
             have h3:=HN.out
             try simp only [List.length_append,List.length_cons,List.length_nil] at *
             omega
           obtain ⟨nk,hnk⟩:∃ nk,nk = ((l.filter (fun i=>lsB i.id x.id) ++ [x]) ++ (l.take k).filter (fun i=>gtB i.id x.id)).length:=⟨_,rfl⟩
           rw [← hnk] at hfl
           go_wp2_with fail
           refine wp_region_quiet_below (by kernel_rfl) (by kernel_rfl) ?_
           repeat (first | go_big_quiet_step (fail) | quiet_step (fail))
           refine wpQuiet_nil ?_
           intro w7 hw'
           have hb':=y05h (zac hw')
           clear hw'
           clear r0 LA
           have HO7:=y05h (HO.out.later hb'.out)
           have HX7:=y05h (HX.out.later hb'.out)
           have HB7:=y05h (HB.out.trans (hb'.out.mono HB.out.size))
           have zw7:=HB7.out.size
           have zx7:=HX7.out.lt
           obtain ⟨d0,d1,d2,d3,d4,d5,d6,d7⟩:=za0 (w:=w7) (fun j u hu=>(HB7.out.cell (p:=⟨b,o + k * 8 + j,none⟩) hb0).trans (HR.out.cell k i HI.out j u hu))
           have zb7:=Nat.lt_of_lt_of_le hb0 HB7.out.size
           have HO3:=y05h (HO7.out.alloc (.cells #[.string i.id,.int .i64 i.r,.int .i64 i.c,.int .i64 i.st,.string i.kd,.int .i64 i.num,.complex .f64 i.x i.y,.bool i.d] 69))
           have HX3:=y05h (HX7.out.alloc (.cells #[.string i.id,.int .i64 i.r,.int .i64 i.c,.int .i64 i.st,.string i.kd,.int .i64 i.num,.complex .f64 i.x i.y,.bool i.d] 69))
           have HB3:=y05h (HB7.out.alloc zw7 (.cells #[.string i.id,.int .i64 i.r,.int .i64 i.c,.int .i64 i.st,.string i.kd,.int .i64 i.num,.complex .f64 i.x i.y,.bool i.d] 69))
           have hown:(w7.alloc (.cells #[.string i.id,.int .i64 i.r,.int .i64 i.c,.int .i64 i.st,.string i.kd,.int .i64 i.num,.complex .f64 i.x i.y,.bool i.d] 69)).ownsRow (w.heap.size + 1) 69 8 sv nk (zat ((l.filter (fun i=>lsB i.id x.id) ++ [x]) ++ (l.take k).filter (fun i=>gtB i.id x.id))):=by rw [hnk];exact HO3.out
           have HNK:=y05h hnk
           clear hnk
           go_wp2_with (at_builtin;refine wpList_append_lies _ (by rfl) _ _ _ (by rfl) (w.heap.size + 1) 69 i0 _ 8 88 Tryz.underlying41 hi hz0 hz1 hz2 rfl (by omega) sv nk (zat ((l.filter (fun i=>lsB i.id x.id) ++ [x]) ++ (l.take k).filter (fun i=>gtB i.id x.id))) (by rfl) hown ⟨w7.heap.size,0,none⟩ 1 1 (ic i) (by rfl) (by rfl) zgo (zc7 i) (by omega) (by unfold maxLen;omega) (by omega) (by simp;omega) (w7.heap.size + 1) (by simp) ?_;intro g cap' w3 hown3 hgrow hat hlt3)
           have R1:=y05h (OwnI.push hown3 (by rw [HNK.out]))
           have R2:=y05h (zba HO3.out HB3.out (by omega) hgrow HB3.out.size)
           have R3:=y05h (HX3.out.grown hgrow (zbp HO3.out (by omega)))
           clear hown hown3 hgrow hat
           go_roundw
           case rel=>exact ⟨k + 1,_,by omega,by go_num,rfl,y05h (by show OwnI _ _ ((l.filter (fun i=>lsB i.id x.id) ++ [x]) ++ (l.take (k + 1)).filter (fun i=>gtB i.id x.id)) _;rw [HF.out];first | exact R1.out | (rw [← List.append_assoc];exact R1.out)),R3,R2⟩
           case measure=>simp [intOf];omega
       · have e:len = k:=by omega
         subst e
         have h1:=HO.out
         rw [List.take_of_length_le (by rw [HN.out];omega)] at h1
         have HO:=y05h h1
         clear h1
         go_wp2_with fail
         go_ret
         exact ⟨_,rfl,HO.out.mono (by omega),HB.out⟩
theorem zip (name:String) (b:Nat) (s:Bool) (m:Nat) (i:Int) (h:FloatKind.f64.decode b = .number s m i) :
   Extern.MathFloor.toIntegral name .zero #[.float .f64 b] = pure (.float .f64 (FloatKind.f64.encode ((Ieee.Datum.number s m i).integral .zero))):=by
 have key:∀ d,FloatKind.f64.decode b = d → Extern.MathFloor.toIntegral name .zero #[.float .f64 b] =
     (match d with
     | .nan s t=>if FloatKind.f64.format.quiet t = t then pure (.float .f64 b) else do
       let kept ← choose (.extern "math.Floor,Ceil,Trunc,RoundToEven.signallingNaN kept" 2)
       pure (.float .f64 (if kept == 1 then b else FloatKind.f64.encode (.nan s (FloatKind.f64.format.quiet t))))
     | d=>pure (.float .f64 (FloatKind.f64.encode (d.integral .zero)))):=by
   intro d hd;subst hd;rfl
 exact key _ h
theorem zux (b:Nat) (w:World) (hl:Fl.geLo b = true) (hh:Fl.leHi b = true) :
   (callFunc 190 #[.float .f64 b]).run Tryz.prog w = .ok (.value (.float .f64 (Fl.trunc b))) w:=by
 rw [run_callFunc_extern (e:=Extern.MathFloor.toIntegral "math.archTrunc" .zero) Tryz.func190 (by kernel_rfl) (by kernel_rfl) (by kernel_rfl) (by kernel_rfl)]
 obtain ⟨s,m,e,hr,hm⟩:=Fl.finite_of_range hl hh
 rw [zip _ b s m _ hr]
 unfold Fl.trunc
 rw [hr]
 rfl
theorem zp6 (b:Nat) (w:World) (hl:Fl.geLo b = true) (hh:Fl.leHi b = true) :
   Calls Tryz.prog 178 #[.float .f64 b] w fun e w'=>e = .returned (.float .f64 (Fl.trunc b)) ∧ w = w':=by
 have h:=zux b w hl hh
 go_enter Tryz.func178,Tryz.ntmps178
 go_wp2
 go_ret
 exact ⟨rfl,rfl⟩
theorem inR (b:Nat):(FloatKind.f64.format.order b 13875379345695965184 == some .gt || FloatKind.f64.format.order b 13875379345695965184 == some .eq) = Fl.geLo b:=rfl
theorem inH (b:Nat):(FloatKind.f64.format.order b 4652007308841189376 == some .lt || FloatKind.f64.format.order b 4652007308841189376 == some .eq) = Fl.leHi b:=rfl
theorem inT (b:Nat) (hl:Fl.geLo b = true) (hh:Fl.leHi b = true):(FloatKind.f64.format.order b (Fl.trunc b) == some .eq) = Fl.wb b:=by
 simp only [Fl.wb,hl,hh,Bool.true_and];rfl
theorem zp8 (b:Nat) (w:World) :
   Calls Tryz.prog 172 #[.float .f64 b] w fun e w'=>e = .returned (.bool (Fl.wb b)) ∧ w = w':=by
 have e1:=inR b
 have e2:=inH b
 cases hl:Fl.geLo b
 · rw [show Fl.wb b = false by simp [Fl.wb,hl]]
   rw [hl] at e1
   go_enter Tryz.func172,Tryz.ntmps172
   go_wp2
   go_ret
   exact ⟨rfl,rfl⟩
 · cases hh:Fl.leHi b
   · rw [show Fl.wb b = false by simp [Fl.wb,hh]]
     rw [hl] at e1
     rw [hh] at e2
     go_enter Tryz.func172,Tryz.ntmps172
     go_wp2
     go_ret
     exact ⟨rfl,rfl⟩
   · have e3:=inT b hl hh
     rw [hl] at e1
     rw [hh] at e2
     generalize Fl.wb b = r at *
     have c:=zp6 b w hl hh
     have C:=y05h c
     clear c hl hh
     go_enter Tryz.func172,Tryz.ntmps172
     go_wp2_with (go_at_call 178;refine (C.out).mono ?_;rintro e w' ⟨rfl,rfl⟩)
     go_ret
     exact ⟨rfl,rfl⟩
theorem zr7 (b:Nat) (w:World) :
   Calls Tryz.prog 165 #[.float .f64 b] w fun e w'=>e = .returned (.bool (Fl.wb b)) ∧ w = w':=by
 have e1:=inR b
 have e2:=inH b
 cases hl:Fl.geLo b
 · rw [show Fl.wb b = false by simp [Fl.wb,hl]]
   rw [hl] at e1
   go_enter Tryz.func165,Tryz.ntmps165
   go_wp2
   go_ret
   exact ⟨rfl,rfl⟩
 · cases hh:Fl.leHi b
   · rw [show Fl.wb b = false by simp [Fl.wb,hh]]
     rw [hl] at e1
     rw [hh] at e2
     go_enter Tryz.func165,Tryz.ntmps165
     go_wp2
     go_ret
     exact ⟨rfl,rfl⟩
   · have e3:(FloatKind.f64.format.order (floatOfInt .f64 (Fl.iv b)) b == some .eq) = Fl.wb b :=
       Fl.back_wb hl hh (Fl.ofInt_int (by have:=(Fl.trunc_int hl hh).2;omega))
     have c1:=run_convert_float_int (P:=Tryz.prog) w 22 3 .f64 .i64 b (Fl.iv b) (by kernel_rfl) (by kernel_rfl) (Fl.toInt_range hl hh)
     have c2:=run_convert_int_float (P:=Tryz.prog) w 3 22 .i64 .f64 (Fl.iv b) (by kernel_rfl) (by kernel_rfl)
     rw [hl] at e1
     rw [hh] at e2
     generalize Fl.wb b = r at *
     generalize Fl.iv b = n at *
     clear hl hh
     go_enter Tryz.func165,Tryz.ntmps165
     go_wp2
     go_ret
     exact ⟨rfl,rfl⟩
def mayB (a b:Nat):Bool:=Fl.wb a && Fl.wb b
theorem zc2 (a b:Nat) (w:World) :
   Calls Tryz.prog 150 #[.complex .f64 a b] w fun e w'=>e = .returned (.bool (mayB a b)) ∧ w = w':=by
 have H:=fun x=>y05h (zp8 x w)
 unfold mayB
 cases ha:Fl.wb a <;> cases hb:Fl.wb b <;>
 ( go_enter Tryz.func150,Tryz.ntmps150
   go_wp2_with (go_at_call 172;refine ((H _).out).mono ?_;(try rw [ha]);(try rw [hb]);rintro e w' ⟨rfl,rfl⟩)
   go_ret
   exact ⟨rfl,rfl⟩ )
theorem zd6 (a b:Nat) (w:World) :
   Calls Tryz.prog 132 #[.complex .f64 a b] w fun e w'=>e = .returned (.bool (mayB a b)) ∧ w = w':=by
 have H:=fun x=>y05h (zr7 x w)
 unfold mayB
 cases ha:Fl.wb a <;> cases hb:Fl.wb b <;>
 ( go_enter Tryz.func132,Tryz.ntmps132
   go_wp2_with (go_at_call 165;refine ((H _).out).mono ?_;(try rw [ha]);(try rw [hb]);rintro e w' ⟨rfl,rfl⟩)
   go_ret
   exact ⟨rfl,rfl⟩ )
def low (c:UInt8):Bool:=decide (97 ≤ c.toNat) && decide (c.toNat ≤ 122)
def lows (l:List UInt8):Bool:=l.all low
def txtB (s:ByteArray):Bool:=decide (s.size ≤ 8) && lows s.data.toList
def zaz (s:ByteArray):Bool:=decide (1 ≤ s.size) && txtB s
def feq (x y:Nat):Bool:=FloatKind.f64.format.order x y == some .eq
theorem zgf {x:Nat} (h:Fl.wb x = true):feq x x = true:=by
 have h1:=(Fl.wb_int h).1
 have h2:=Fl.order_int h1 h1
 unfold feq
 have h3:FloatKind.f64.format.order x x = some (compare (Fl.iv x) (Fl.iv x)):=h2
 rw [h3]
 simp
theorem zt3 {c:UInt8} (h1:97 ≤ c.toNat) (h2:c.toNat ≤ 122):low c = true:=by simp [low,h1,h2]
theorem zkc {c:UInt8} (h:c.toNat < 97):low c = false:=by simp [low];omega
theorem zkb {c:UInt8} (h:122 < c.toNat):low c = false:=by simp [low];omega
theorem zh5 (s:ByteArray) (k:Nat) (h:k < s.size):s.data.toList.take (k + 1) = s.data.toList.take k ++ [s[k]]:=by
 rw [List.take_succ_eq_append_getElem (by simpa using h)];rfl
theorem zly (s:ByteArray) (k:Nat) (h:k < s.size) (hl:lows (s.data.toList.take k) = true):lows (s.data.toList.take (k + 1)) = low s[k]:=by
 rw [zh5 s k h]
 unfold lows at *
 rw [List.all_append,hl];simp
theorem zj7 (s:ByteArray) (k:Nat) (h:k < s.size) (hl:low s[k] = false):lows s.data.toList = false:=by
 unfold lows
 rw [List.all_eq_false]
 refine ⟨s[k],?_,by rw [hl];simp⟩
 have h':k < s.data.size:=h
 show s.data[k] ∈ s.data.toList
 exact Array.mem_toList_iff.2 (Array.getElem_mem h')
theorem zol (s:ByteArray) (h:lows (s.data.toList.take s.size) = true):lows s.data.toList = true:=by
 rwa [List.take_of_length_le (by simp)] at h
theorem zkq (s:ByteArray) (w:World) :
   Calls Tryz.prog 142 #[.string s] w fun e w'=>e = .returned (.bool (txtB s)) ∧ w = w':=by
 by_cases h8:s.size ≤ 8
 · have e:txtB s = lows s.data.toList:=by simp [txtB,h8]
   rw [e]
   have h9:¬ (8:Int) < s.size:=by omega
   clear e
   go_enter Tryz.func142,Tryz.ntmps142
   go_wp2
   go_loop [3,9] (fun _ i=>∃ k:Nat,k ≤ s.size ∧ i = .int .i64 k ∧ lows (s.data.toList.take k) = true) (fun _ i=>s.size - (intOf i).toNat)
   case atStart=>exact ⟨0,Nat.zero_le _,rfl,by simp [lows]⟩
   case round =>
     obtain ⟨k,hk,rfl,hl⟩:=hrel
     by_cases hlt:k < s.size
     · have hn:=zly s k hlt hl
       have HN:=y05h hn
       have HF:=y05h (zj7 s k hlt)
       clear hn
       have HL:=y05h hl
       clear hl
       by_cases a1:s[k].toNat < 97
       · have hz:=HF.out (zkc a1)
         have HZ:=y05h hz
         clear hz HF HN
         go_wp2
         go_ret
         exact ⟨zaa HZ.out.symm,rfl⟩
       · by_cases a2:122 < s[k].toNat
         · have hz:=HF.out (zkb a2)
           have HZ:=y05h hz
           clear hz HF HN
           go_wp2
           go_ret
           exact ⟨zaa HZ.out.symm,rfl⟩
         · have hz:=HN.out
           rw [zt3 (by omega) (by omega)] at hz
           have HZ:=y05h hz
           clear hz HF HN
           go_wp2
           go_round
           case rel=>exact ⟨k + 1,by omega,by go_num,HZ.out⟩
           case measure=>simp [intOf];omega
     · have e:k = s.size:=by omega
       subst e
       have HL:=y05h (zol s hl)
       clear hl
       go_wp2
       go_ret
       exact ⟨zaa HL.out.symm,rfl⟩
 · have e:txtB s = false:=by simp [txtB,h8]
   rw [e]
   have h9:(8:Int) < s.size:=by omega
   go_enter Tryz.func142,Tryz.ntmps142
   go_wp2
   go_ret
   exact ⟨rfl,rfl⟩
theorem z0m {s:ByteArray} (h8:s.size ≤ 8):txtB s = lows s.data.toList:=by simp [txtB,h8]
theorem zy5 {s:ByteArray} (h8:8 < s.size):txtB s = false:=by simp [txtB];omega
theorem zu5 {s:ByteArray} (h:lows s.data.toList = false):txtB s = false:=by simp [txtB,h]
theorem zg0 (s:ByteArray) (n:Int) (w:World) (hs:s.size ≤ maxLen) :
   Calls Tryz.prog 137 #[.string s,.int .i64 n] w fun e w'=>e = .returned (.bool (txtB s && decide (n ≤ s.size))) ∧ w = w':=by
 unfold maxLen at hs
 go_enter Tryz.func137,Tryz.ntmps137
 go_wp2
 go_loop [5] (fun i=>∃ k:Nat,k ≤ s.size ∧ k ≤ 8 ∧ i = .int .i64 k ∧ lows (s.data.toList.take k) = true) (fun i=>s.size - (intOf i).toNat)
 case atStart=>exact ⟨0,Nat.zero_le _,by omega,rfl,by simp [lows]⟩
 case round =>
   obtain ⟨k,hk,hk8,rfl,hl⟩:=hrel
   by_cases hlt:k < s.size
   · by_cases h8:k = 8
     · subst h8
       have HZ:=y05h (zy5 hlt)
       have HL:=y05h hl
       clear hl
       go_wp2
       go_ret
       exact ⟨zaa (by rw [HZ.out];rfl),rfl⟩
     · have hn:=zly s k hlt hl
       have HN:=y05h hn
       have HF:=y05h (zj7 s k hlt)
       clear hn
       have HL:=y05h hl
       clear hl
       have g8:((k:Int) == 8) = false:=by rw [beq_eq_false_iff_ne];omega
       by_cases a1:s[k].toNat < 97
       · have HZ:=y05h (zu5 (HF.out (zkc a1)))
         clear HF HN
         go_wp2
         go_ret
         exact ⟨zaa (by rw [HZ.out];rfl),rfl⟩
       · by_cases a2:122 < s[k].toNat
         · have HZ:=y05h (zu5 (HF.out (zkb a2)))
           clear HF HN
           go_wp2
           go_ret
           exact ⟨zaa (by rw [HZ.out];rfl),rfl⟩
         · have hz:=HN.out
           rw [zt3 (by omega) (by omega)] at hz
           have HZ:=y05h hz
           clear hz HF HN
           have hk9:k + 1 ≤ 8:=by omega
           clear h8 g8
           have g8:((k:Int) == 8) = false:=by rw [beq_eq_false_iff_ne];omega
           go_wp2
           go_round
           case rel=>exact ⟨k + 1,by omega,hk9,by go_num,HZ.out⟩
           case measure=>simp [intOf];omega
   · have e:k = s.size:=by omega
     subst e
     have HL:=y05h (zol s hl)
     have HT:=y05h (z0m hk8)
     clear hl
     go_wp2
     go_ret
     exact ⟨zaa (by rw [HT.out,HL.out];simp),rfl⟩
theorem zhe (s:ByteArray) (h:s.size = 0):s = ⟨#[]⟩:=by
 cases s with
 | mk d=>have:d.size = 0:=h;rw [Array.size_eq_zero_iff.1 this]
theorem zer (s:ByteArray) (w:World) :
   Calls Tryz.prog 97 #[.string s] w fun e w'=>e = .returned (.bool (zaz s)) ∧ w = w':=by
 have H:=y05h (zkq s w)
 by_cases h:s.size = 0
 · have e:=zhe s h
   subst e
   go_enter Tryz.func97,Tryz.ntmps97
   go_wp2
   go_ret
   exact ⟨zaa rfl,rfl⟩
 · have e:zaz s = txtB s:=by simp [zaz];omega
   rw [e]
   clear e
   have h1:s.toList ≠ []:=by
     intro hz
     exact h (by have:=congrArg List.length hz;rw [ziv] at this;simpa using this)
   have h2:s.toList.isEmpty = false:=by rw [List.isEmpty_eq_false_iff];exact h1
   generalize txtB s = r at *
   clear h
   go_enter Tryz.func97,Tryz.ntmps97
   go_wp2_with (go_at_call 142;refine (H.out).mono ?_;rintro e w' ⟨rfl,rfl⟩)
   go_ret
   exact ⟨rfl,rfl⟩
theorem zhb (s:ByteArray) (w:World) (hs:s.size ≤ maxLen) :
   Calls Tryz.prog 131 #[.string s] w fun e w'=>e = .returned (.bool (txtB s)) ∧ w = w':=by
 have H:=y05h (zg0 s 0 w hs)
 have e:txtB s = (txtB s && decide ((0:Int) ≤ s.size)):=by
   have:(0:Int) ≤ s.size:=by omega
   simp
 rw [e]
 clear e
 generalize (txtB s && decide ((0:Int) ≤ s.size)) = r at *
 go_enter Tryz.func131,Tryz.ntmps131
 go_wp2_with (go_at_call 137;refine (H.out).mono ?_;rintro e w' ⟨rfl,rfl⟩)
 go_ret
 exact ⟨rfl,rfl⟩
end Go.Proofs.YthnllikalobmeaaGreat
