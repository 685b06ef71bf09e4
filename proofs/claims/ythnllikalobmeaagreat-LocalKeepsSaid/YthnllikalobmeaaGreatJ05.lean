/- Joined: PMay, RefList, ItemA, KnowM. -/
import Derived.Test.YthnllikalobmeaaGreatRows
import Derived.Test.YthnllikalobmeaaGreatJ04
import Derived.WalkKit
import Derived.WalkSpells
import Derived.WalkLawsBesides
import Derived.Lib.Hide
import Derived.Test.YthnllikalobmeaaGreatJ01
import Derived.Deep.CutBlock
import Derived.Deep.DeepCutAuto
namespace Go.Proofs.YthnllikalobmeaaGreat
set_option linter.unusedVariables false
set_option linter.unusedSimpArgs false
set_option maxRecDepth 100000
set_option maxHeartbeats 8000000
open Go.RowKit
theorem y05h {p:Prop} (h:p):Hid p:=Lib.hid h
theorem zho (name:String) (b:Nat) (s:Bool) (m:Nat) (i:Int) (h:FloatKind.f64.decode b = .number s m i) :
   Extern.MathFloor.toIntegral name .zero #[.float .f64 b] = pure (.float .f64 (FloatKind.f64.encode ((Ieee.Datum.number s m i).integral .zero))):=by
 have key:∀ d,FloatKind.f64.decode b = d → Extern.MathFloor.toIntegral name .zero #[.float .f64 b] =
     (match d with
     | .nan s t=>if FloatKind.f64.format.quiet t = t then pure (.float .f64 b) else do
       let kept ← choose (.extern "math.Floor,Ceil,Trunc,RoundToEven.signallingNaN kept" 2)
       pure (.float .f64 (if kept == 1 then b else FloatKind.f64.encode (.nan s (FloatKind.f64.format.quiet t))))
     | d=>pure (.float .f64 (FloatKind.f64.encode (d.integral .zero)))):=by
   intro d hd;subst hd;rfl
 exact key _ h
theorem zr5 (b:Nat) (w:World) (hl:Fl.geLo b = true) (hh:Fl.leHi b = true) :
   (callFunc 190 #[.float .f64 b]).run Tryz.prog w = .ok (.value (.float .f64 (Fl.trunc b))) w:=by
 rw [run_callFunc_extern (e:=Extern.MathFloor.toIntegral "math.archTrunc" .zero) Tryz.func190 (by kernel_rfl) (by kernel_rfl) (by kernel_rfl) (by kernel_rfl)]
 obtain ⟨s,m,e,hr,hm⟩:=Fl.finite_of_range hl hh
 rw [zho _ b s m _ hr]
 unfold Fl.trunc
 rw [hr]
 rfl
theorem zn3 (b:Nat) (w:World) (hl:Fl.geLo b = true) (hh:Fl.leHi b = true) :
   Calls Tryz.prog 178 #[.float .f64 b] w fun e w'=>e = .returned (.float .f64 (Fl.trunc b)) ∧ w = w':=by
 have h:=zr5 b w hl hh
 go_enter Tryz.func178,Tryz.ntmps178
 go_wp2
 go_ret
 exact ⟨rfl,rfl⟩
theorem inR (b:Nat):(FloatKind.f64.format.order b 13875379345695965184 == some .gt || FloatKind.f64.format.order b 13875379345695965184 == some .eq) = Fl.geLo b:=rfl
theorem inH (b:Nat):(FloatKind.f64.format.order b 4652007308841189376 == some .lt || FloatKind.f64.format.order b 4652007308841189376 == some .eq) = Fl.leHi b:=rfl
theorem inT (b:Nat) (hl:Fl.geLo b = true) (hh:Fl.leHi b = true):(FloatKind.f64.format.order b (Fl.trunc b) == some .eq) = Fl.wb b:=by
 simp only [Fl.wb,hl,hh,Bool.true_and];rfl
theorem zn4 (b:Nat) (w:World) :
   Calls Tryz.prog 172 #[.float .f64 b] w fun e w'=>e = .returned (.bool (Fl.wb b)) ∧ w = w':=by
 have e1:=inR b
 have e2:=inH b
 cases hl:Fl.geLo b
 · rw [show Fl.wb b = false by simp [Fl.wb,hl]]
   rw [hl] at e1
   go_enter Tryz.func172,Tryz.ntmps172
   go_wp2
   go_ret
   exact ⟨rfl,rfl⟩
 · cases hh:Fl.leHi b
   · rw [show Fl.wb b = false by simp [Fl.wb,hh]]
     rw [hl] at e1
     rw [hh] at e2
     go_enter Tryz.func172,Tryz.ntmps172
     go_wp2
     go_ret
     exact ⟨rfl,rfl⟩
   · have e3:=inT b hl hh
     rw [hl] at e1
     rw [hh] at e2
     generalize Fl.wb b = r at *
     have c:=zn3 b w hl hh
     have C:=y05h c
     clear c hl hh
     go_enter Tryz.func172,Tryz.ntmps172
     go_wp2_with (go_at_call 178;refine (C.out).mono ?_;rintro e w' ⟨rfl,rfl⟩)
     go_ret
     exact ⟨rfl,rfl⟩
def mayB (a b:Nat):Bool:=Fl.wb a && Fl.wb b
theorem zcj (a b:Nat) (w:World) :
   Calls Tryz.prog 150 #[.complex .f64 a b] w fun e w'=>e = .returned (.bool (mayB a b)) ∧ w = w':=by
 have H:=fun x=>y05h (zn4 x w)
 unfold mayB
 cases ha:Fl.wb a <;> cases hb:Fl.wb b <;>
 ( go_enter Tryz.func150,Tryz.ntmps150
   go_wp2_with (go_at_call 172;refine ((H _).out).mono ?_;(try rw [ha]);(try rw [hb]);rintro e w' ⟨rfl,rfl⟩)
   go_ret
   exact ⟨rfl,rfl⟩ )
def FRel (F:Nat → List Itm) (len:Nat) (w:World) (lv iv:Value) (wr:World):Prop :=
 ∃ (k:Nat) (sv:Value),k ≤ len ∧ iv = .int .i64 k ∧ sv = lv ∧ Hid (OwnI wr w.heap.size (F k) sv) ∧ Hid (Below w.heap.size w wr)
theorem zhs (l:List Itm) (v:Value) (w:World) (hR:Row 9 rc w l v) (hlen:l.length ≤ 10000) :
   Calls Tryz.prog 34 #[v] w fun e w'=>∃ v',e = .returned v' ∧ OwnI w' w.heap.size l v' ∧ Below w.heap.size w w':=by
 obtain ⟨oa,cap,b,o,rfl,hr⟩:=hR
 obtain ⟨i0,hi,hz0,hz1,hz2⟩:=info_parts zb1
 have HR:=y05h hr
 have hcap:=hr.len
 have hmax:=hr.max
 unfold maxLen at hmax
 clear hr
 generalize hn:l.length = len at *
 have HN:=y05h hn
 clear hn
 go_enter Tryz.func34,Tryz.ntmps34
 go_wp2_with fail
 go_loopw [3,4] (fun lv iv wr=>FRel (fun k=>l.take k) len w lv iv wr) (fun _ iv _=>len - (intOf iv).toNat)
 case atStart=>exact ⟨0,_,Nat.zero_le _,rfl,rfl,by unfold Hid;exact OwnI.nil _ _,Below.refl _ _⟩
 case round =>
   obtain ⟨k,sv,hk,rfl,rfl,HO,HB⟩:=hrel
   replace HO:=y05h (show OwnI wr w.heap.size (l.take k) sv from HO.out)
   by_cases hlt:k < len
   · obtain ⟨i,hi9⟩:∃ i,l[k]? = some i:=⟨_,List.getElem?_eq_getElem (by rw [HN.out];exact hlt)⟩
     obtain ⟨rfl,hb0⟩:=HR.out.at0 (by rw [HN.out];omega)
     obtain ⟨c0,c1,c2,c3,c4,c5,c6,c7,c8⟩:=ztw (w:=wr) (fun j u hu=>(HB.out.cell (p:=⟨b,o + k * 9 + j,none⟩) hb0).trans (HR.out.cell k i hi9 j u hu))
     have zb:=Nat.lt_of_lt_of_le hb0 HB.out.size
     have C:=y05h (zpj i.id i.r i.c i.st i.kd i.num i.x i.y i.d wr)
     have hlk:(l.take k).length = k:=by rw [List.length_take,HN.out];omega
     have HI:=y05h hi9
     clear hi9
     have zw:=HB.out.size
     go_wp2_with fail
     refine C.out.mono ?_
     rintro e w2 ⟨rfl,hb2⟩
     have HO2:=y05h (HO.out.later hb2)
     have HB2:=y05h (HB.out.trans (hb2.mono HB.out.size))
     have zw2:=HB2.out.size
     clear hb2
     have HO3:=y05h (HO2.out.alloc (.cells #[.string i.id,.int .i64 i.r,.int .i64 i.c,.int .i64 i.st,.string i.kd,.int .i64 i.num,.complex .f64 i.x i.y,.bool i.d] 69))
     have HB3:=y05h (HB2.out.alloc zw2 (.cells #[.string i.id,.int .i64 i.r,.int .i64 i.c,.int .i64 i.st,.string i.kd,.int .i64 i.num,.complex .f64 i.x i.y,.bool i.d] 69))
     have hown:(w2.alloc (.cells #[.string i.id,.int .i64 i.r,.int .i64 i.c,.int .i64 i.st,.string i.kd,.int .i64 i.num,.complex .f64 i.x i.y,.bool i.d] 69)).ownsRow w.heap.size 69 8 sv k (zap (l.take k)):=by have:=HO3.out;unfold OwnI at this;rw [hlk] at this;exact this
     go_wp2_with (at_builtin;refine wpList_append_lies _ (by rfl) _ _ _ (by rfl) w.heap.size 69 i0 _ 8 88 Tryz.underlying41 hi hz0 hz1 hz2 rfl (by omega) sv k (zap (l.take k)) (by rfl) hown ⟨w2.heap.size,0,none⟩ 1 1 (ic i) (by rfl) (by rfl) zhe (zc7 i) (by omega) (by unfold maxLen;omega) (by omega) (by simp;omega) (w2.heap.size + 1) (by simp) ?_;intro g cap' w3 hown3 hgrow hat hlt3)
     have R1:=y05h (OwnI.push hown3 (by omega))
     have R2:=y05h (za3 HO3.out HB3.out (Nat.le_refl _) hgrow HB3.out.size)
     clear hown hown3 hgrow hat
     go_roundw
     case rel=>exact ⟨k + 1,_,by omega,by go_num,rfl,y05h (by show OwnI _ _ (l.take (k + 1)) _;rw [zdk HI.out];exact R1.out),R2⟩
     case measure=>simp [intOf];omega
   · have e:len = k:=by omega
     subst e
     have h1:=HO.out
     rw [List.take_of_length_le (by rw [HN.out];omega)] at h1
     have H1:=y05h h1
     clear h1
     go_wp2_with fail
     go_ret
     exact ⟨_,rfl,H1.out,HB.out⟩
def neB (id:ByteArray) (i:Itm):Bool:=!(i.id.toList == id.toList)
theorem zl6 {p:Itm → Bool} {l:List Itm} {k:Nat} {i:Itm} (h:l[k]? = some i) (hp:p i = true):(l.take (k + 1)).filter p = (l.take k).filter p ++ [i]:=by
 rw [zdk h,List.filter_append];simp [hp]
theorem zke {p:Itm → Bool} {l:List Itm} {k:Nat} {i:Itm} (h:l[k]? = some i) (hp:p i = false):(l.take (k + 1)).filter p = (l.take k).filter p:=by
 rw [zdk h,List.filter_append];simp [hp]
theorem zl5 {p:Itm → Bool} {l:List Itm} {k:Nat}:((l.take k).filter p).length ≤ k:=Nat.le_trans (List.length_filter_le _ _) (by rw [List.length_take];omega)
def getI (l:List Itm) (id:ByteArray):Itm × Bool:=match l.find? (fun i=>i.id.toList == id.toList) with
 | some i=>(i,true)
 | none=>(Itm.zero,false)
theorem zvc {p:Itm → Bool} {l:List Itm} {k:Nat} {i:Itm} (h:l[k]? = some i) (hp:p i = true) (hn:∀ j x,j < k → l[j]? = some x → p x = false):l.find? p = some i:=by
 induction l generalizing k with
 | nil=>simp at h
 | cons a l ih =>
   cases k with
   | zero=>simp at h;subst h;simp [List.find?_cons,hp]
   | succ k =>
     simp at h
     have:=hn 0 a (by omega) rfl
     rw [List.find?_cons,this]
     exact ih h fun j x hj hx=>hn (j + 1) x (by omega) (by simpa using hx)
theorem zvd {p:Itm → Bool} {l:List Itm} (hn:∀ j x,j < l.length → l[j]? = some x → p x = false):l.find? p = none:=by
 rw [List.find?_eq_none]
 intro x hx
 obtain ⟨j,hj,e⟩:=List.mem_iff_getElem.1 hx
 have:=hn j x hj (by rw [List.getElem?_eq_getElem hj,e])
 simp [this]
def GRel (l:List Itm) (id:ByteArray) (len:Nat) (w:World) (iv:Value) (wr:World):Prop :=
 ∃ k:Nat,k ≤ len ∧ iv = .int .i64 k ∧ Hid (∀ j x,j < k → l[j]? = some x → (x.id.toList == id.toList) = false) ∧ Hid (Own wr w.heap.size #[.string ⟨#[]⟩,.int .i64 0,.int .i64 0,.int .i64 0,.string ⟨#[]⟩,.int .i64 0,.complex .f64 0 0,.bool false] 69) ∧ Hid (Below w.heap.size w wr)
theorem zeo (l:List Itm) (id:ByteArray) (v:Value) (w:World) (hR:Row 8 ic w l v) :
   Calls Tryz.prog 27 #[v,.string id] w fun e w'=>e = .returned (.tuple #[iV (getI l id).1,.bool (getI l id).2]) ∧ Below w.heap.size w w':=by
 obtain ⟨oa,cap,b,o,rfl,hr⟩:=hR
 have HR:=y05h hr
 have hcap:=hr.len
 have hmax:=hr.max
 unfold maxLen at hmax
 clear hr
 generalize hg:getI l id = gg at *
 have HG:=y05h hg
 clear hg
 generalize hn:l.length = len at *
 have HN:=y05h hn
 clear hn
 go_enter Tryz.func27,Tryz.ntmps27
 go_wp2_with fail
 go_loopw [6] (fun iv wr=>GRel l id len w iv wr) (fun iv _=>len - (intOf iv).toNat)
 case atStart=>exact ⟨0,Nat.zero_le _,rfl,fun j x hj=>absurd hj (by omega),by unfold Hid;exact Own.new _ _ _,by unfold Hid;exact (Below.refl _ _).alloc (Nat.le_refl _) _⟩
 case round =>
   obtain ⟨k,hk,rfl,HS,HO,HB⟩:=hrel
   by_cases hlt:k < len
   · obtain ⟨i,hi9⟩:∃ i,l[k]? = some i:=⟨_,List.getElem?_eq_getElem (by rw [HN.out];exact hlt)⟩
     obtain ⟨rfl,hb0⟩:=HR.out.at0 (by rw [HN.out];omega)
     obtain ⟨c0,c1,c2,c3,c4,c5,c6,c7⟩:=zaw (w:=wr) (fun j u hu=>(HB.out.cell (p:=⟨b,o + k * 8 + j,none⟩) hb0).trans (HR.out.cell k i hi9 j u hu))
     have zb:=Nat.lt_of_lt_of_le hb0 HB.out.size
     have HI:=y05h hi9
     clear hi9
     cases ht:(i.id.toList == id.toList)
     · have HS2:=y05h (show ∀ j x,j < k + 1 → l[j]? = some x → (x.id.toList == id.toList) = false from fun j x hj hx=>by
         by_cases e:j = k
         · subst e;rw [HI.out] at hx;cases hx;exact ht
         · exact HS.out j x (by omega) hx)
       go_wp2_with fail
       go_roundw
       case rel=>exact ⟨k + 1,by omega,by go_num,HS2.out,HO,HB⟩
       case measure=>simp [intOf];omega
     · have E:=y05h (show gg = (i,true) by rw [← HG.out];unfold getI;rw [zvc HI.out ht HS.out])
       have l1:=HO.out.cell
       have f1:=HO.out.free
       have z1:=HO.out.lt
       have hne:b ≠ w.heap.size:=by omega
       go_wp2_with fail
       clear ht
       -- found
       have key:=And.intro (zcf HO.out (.string i.id) (.int .i64 i.r) (.int .i64 i.c) (.int .i64 i.st) (.string i.kd) (.int .i64 i.num) (.complex .f64 i.x i.y) (.bool i.d)) (zbq (b:=w.heap.size) HB.out (Nat.le_refl _) (.string i.id) (.int .i64 i.r) (.int .i64 i.c) (.int .i64 i.st) (.string i.kd) (.int .i64 i.num) (.complex .f64 i.x i.y) (.bool i.d))
       clear l1 f1 z1 c0 c1 c2 c3 c4 c5 c6 c7
       unfold st8 at key
       revert key
       generalize World.setCell (World.setCell (World.setCell (World.setCell (World.setCell (World.setCell (World.setCell (World.setCell _ _ _) _ _) _ _) _ _) _ _) _ _) _ _) _ _ = WW
       rintro ⟨of,bf⟩
       have lf:=of.cell
       refine bodyPost_ret (v:=.tuple #[iV i,.bool true]) (by simp [results,Tryz.results27,go_sem,lf,Itm.zero]) rfl ⟨by rw [E.out],bf⟩
   · have E:=y05h (show gg = (Itm.zero,false) by
       rw [← HG.out];unfold getI
       rw [zvd (fun j x hj hx=>HS.out j x (by rw [HN.out] at hj;omega) hx)])
     have l1:=HO.out.cell
     have f1:=HO.out.free
     have z1:=HO.out.lt
     go_wp2_with fail
     have key:=And.intro (zcf HO.out (.string ⟨#[]⟩) (.int .i64 0) (.int .i64 0) (.int .i64 0) (.string ⟨#[]⟩) (.int .i64 0) (.complex .f64 0 0) (.bool false)) (zbq (b:=w.heap.size) HB.out (Nat.le_refl _) (.string ⟨#[]⟩) (.int .i64 0) (.int .i64 0) (.int .i64 0) (.string ⟨#[]⟩) (.int .i64 0) (.complex .f64 0 0) (.bool false))
     clear l1 f1 z1
     unfold st8 at key
     revert key
     generalize World.setCell (World.setCell (World.setCell (World.setCell (World.setCell (World.setCell (World.setCell (World.setCell _ _ _) _ _) _ _) _ _) _ _) _ _) _ _) _ _ = WW
     rintro ⟨of,bf⟩
     have lf:=of.cell
     refine bodyPost_ret (v:=.tuple #[iV Itm.zero,.bool false]) (by simp [results,Tryz.results27,go_sem,lf,Itm.zero]) rfl ⟨by rw [E.out],bf⟩
def putI (l:List Itm) (x:Itm):List Itm:=(l.filter (fun i=>lsB i.id x.id) ++ [x]) ++ l.filter (fun i=>gtB i.id x.id)
def zqg (F:Nat → List Itm) (len:Nat) (X:Array Value) (w:World) (lv iv:Value) (wr:World):Prop :=
 ∃ (k:Nat) (sv:Value),k ≤ len ∧ iv = .int .i64 k ∧ sv = lv ∧ Hid (OwnI wr (w.heap.size + 1) (F k) sv) ∧ Hid (Own wr w.heap.size X 69) ∧ Hid (Below w.heap.size w wr)
theorem zgy (l:List Itm) (x:Itm) (v:Value) (w:World) (hR:Row 8 ic w l v) (hlen:l.length ≤ 10000) :
   Calls Tryz.prog 106 #[v,iV x] w fun e w'=>∃ v',e = .returned v' ∧ OwnI w' w.heap.size (putI l x) v' ∧ Below w.heap.size w w':=by
 obtain ⟨oa,cap,b,o,rfl,hr⟩:=hR
 obtain ⟨i0,hi,hz0,hz1,hz2⟩:=info_parts zb1
 have HR:=y05h hr
 have hcap:=hr.len
 have hmax:=hr.max
 unfold maxLen at hmax
 clear hr
 generalize hn:l.length = len at *
 have HN:=y05h hn
 clear hn
 go_enter Tryz.func106,Tryz.ntmps106
 go_wp2_with fail
 go_loopw [5,6] (fun lv iv wr=>zqg (fun k=>(l.take k).filter (fun i=>lsB i.id x.id)) len #[.string x.id,.int .i64 x.r,.int .i64 x.c,.int .i64 x.st,.string x.kd,.int .i64 x.num,.complex .f64 x.x x.y,.bool x.d] w lv iv wr) (fun _ iv _=>len - (intOf iv).toNat)
 case atStart=>exact ⟨0,_,Nat.zero_le _,rfl,rfl,by unfold Hid;exact OwnI.nil _ _,by unfold Hid;exact Own.new _ _ _,by unfold Hid;exact (Below.refl _ _).alloc (Nat.le_refl _) _⟩
 case round =>
   obtain ⟨k,sv,hk,rfl,rfl,HO,HX,HB⟩:=hrel
   replace HO:=y05h (show OwnI wr (w.heap.size + 1) ((l.take k).filter (fun i=>lsB i.id x.id)) sv from HO.out)
   by_cases hlt:k < len
   · obtain ⟨i,hi9⟩:∃ i,l[k]? = some i:=⟨_,List.getElem?_eq_getElem (by rw [HN.out];exact hlt)⟩
     obtain ⟨rfl,hb0⟩:=HR.out.at0 (by rw [HN.out];omega)
     obtain ⟨c0,c1,c2,c3,c4,c5,c6,c7⟩:=zaw (w:=wr) (fun j u hu=>(HB.out.cell (p:=⟨b,o + k * 8 + j,none⟩) hb0).trans (HR.out.cell k i hi9 j u hu))
     have zb:=Nat.lt_of_lt_of_le hb0 HB.out.size
     have r0:=fun dd os=>cell_regrown c0 dd os
     have LA:=fun dd os o=>HX.out.has.regrown dd os o
     have zw:=HB.out.size
     have HI:=y05h hi9
     have zx:=HX.out.lt
     have hk0:(0:Int) ≤ (k:Int):=by omega
     have hk1:(k:Int) < (len:Int):=by omega
     clear c0 c1 c2 c3 c4 c5 c6 c7 hi9
     cases ht:lsB i.id x.id
     · have HF:=y05h (zke (p:=(fun i=>lsB i.id x.id)) HI.out ht)
       have hg:=ht
       unfold lsB at hg
       go_wp2_with fail
       refine wp_region_quiet_below (by kernel_rfl) (by kernel_rfl) ?_
       repeat (first | go_big_quiet_step (fail) | quiet_step (fail))
       refine wpQuiet_nil ?_
       intro w7 hw'
       have hb':=y05h (zae hw')
       clear hw'
       clear r0 LA
       have HO7:=y05h (HO.out.later hb'.out)
       have HX7:=y05h (HX.out.later hb'.out)
       have HB7:=y05h (HB.out.trans (hb'.out.mono HB.out.size))
       go_wp2_with fail
       go_roundw
       case rel=>exact ⟨k + 1,_,by omega,by go_num,rfl,y05h (by show OwnI _ _ ((l.take (k + 1)).filter (fun i=>lsB i.id x.id)) _;rw [HF.out];exact HO7.out),HX7,HB7⟩
       case measure=>simp [intOf];omega
     · have HF:=y05h (zl6 (p:=(fun i=>lsB i.id x.id)) HI.out ht)
       have hg:=ht
       unfold lsB at hg
       have hfl:((l.take k).filter (fun i=>lsB i.id x.id)).length ≤ 20001:=by
         have h1:=zl5 (p:=(fun i=>lsB i.id x.id)) (l:=l) (k:=k)
         have h2:=List.length_filter_le (fun i=>lsB i.id x.id) l
         have h3:=HN.out
         try simp only [List.length_append,List.length_cons,List.length_nil] at *
         omega
       obtain ⟨nk,hnk⟩:∃ nk,nk = ((l.take k).filter (fun i=>lsB i.id x.id)).length:=⟨_,rfl⟩
       rw [← hnk] at hfl
       go_wp2_with fail
       refine wp_region_quiet_below (by kernel_rfl) (by kernel_rfl) ?_
       repeat (first | go_big_quiet_step (fail) | quiet_step (fail))
       refine wpQuiet_nil ?_
       intro w7 hw'
       have hb':=y05h (zae hw')
       clear hw'
       clear r0 LA
       have HO7:=y05h (HO.out.later hb'.out)
       have HX7:=y05h (HX.out.later hb'.out)
       have HB7:=y05h (HB.out.trans (hb'.out.mono HB.out.size))
       have zw7:=HB7.out.size
       have zx7:=HX7.out.lt
       obtain ⟨d0,d1,d2,d3,d4,d5,d6,d7⟩:=zaw (w:=w7) (fun j u hu=>(HB7.out.cell (p:=⟨b,o + k * 8 + j,none⟩) hb0).trans (HR.out.cell k i HI.out j u hu))
       have zb7:=Nat.lt_of_lt_of_le hb0 HB7.out.size
       have HO3:=y05h (HO7.out.alloc (.cells #[.string i.id,.int .i64 i.r,.int .i64 i.c,.int .i64 i.st,.string i.kd,.int .i64 i.num,.complex .f64 i.x i.y,.bool i.d] 69))
       have HX3:=y05h (HX7.out.alloc (.cells #[.string i.id,.int .i64 i.r,.int .i64 i.c,.int .i64 i.st,.string i.kd,.int .i64 i.num,.complex .f64 i.x i.y,.bool i.d] 69))
       have HB3:=y05h (HB7.out.alloc zw7 (.cells #[.string i.id,.int .i64 i.r,.int .i64 i.c,.int .i64 i.st,.string i.kd,.int .i64 i.num,.complex .f64 i.x i.y,.bool i.d] 69))
       have hown:(w7.alloc (.cells #[.string i.id,.int .i64 i.r,.int .i64 i.c,.int .i64 i.st,.string i.kd,.int .i64 i.num,.complex .f64 i.x i.y,.bool i.d] 69)).ownsRow (w.heap.size + 1) 69 8 sv nk (zap ((l.take k).filter (fun i=>lsB i.id x.id))):=by rw [hnk];exact HO3.out
       have HNK:=y05h hnk
       clear hnk
       go_wp2_with (at_builtin;refine wpList_append_lies _ (by rfl) _ _ _ (by rfl) (w.heap.size + 1) 69 i0 _ 8 88 Tryz.underlying41 hi hz0 hz1 hz2 rfl (by omega) sv nk (zap ((l.take k).filter (fun i=>lsB i.id x.id))) (by rfl) hown ⟨w7.heap.size,0,none⟩ 1 1 (ic i) (by rfl) (by rfl) zhe (zc7 i) (by omega) (by unfold maxLen;omega) (by omega) (by simp;omega) (w7.heap.size + 1) (by simp) ?_;intro g cap' w3 hown3 hgrow hat hlt3)
       have R1:=y05h (OwnI.push hown3 (by rw [HNK.out]))
       have R2:=y05h (za3 HO3.out HB3.out (by omega) hgrow HB3.out.size)
       have R3:=y05h (HX3.out.grown hgrow (zbl HO3.out (by omega)))
       clear hown hown3 hgrow hat
       go_roundw
       case rel=>exact ⟨k + 1,_,by omega,by go_num,rfl,y05h (by show OwnI _ _ ((l.take (k + 1)).filter (fun i=>lsB i.id x.id)) _;rw [HF.out];first | exact R1.out | (rw [← List.append_assoc];exact R1.out)),R3,R2⟩
       case measure=>simp [intOf];omega
   · have e:len = k:=by omega
     subst e
     have h1:=HO.out
     rw [List.take_of_length_le (by rw [HN.out];omega)] at h1
     have HO:=y05h h1
     clear h1
     have l1:=HX.out.cell
     have zx:=HX.out.lt
     have zw:=HB.out.size
     have hfl:(l.filter (fun i=>lsB i.id x.id)).length ≤ 10000:=by
       have h2:=List.length_filter_le (fun i=>lsB i.id x.id) l
       have h3:=HN.out
       omega
     have HO3:=y05h (HO.out.alloc (.cells #[.string x.id,.int .i64 x.r,.int .i64 x.c,.int .i64 x.st,.string x.kd,.int .i64 x.num,.complex .f64 x.x x.y,.bool x.d] 69))
     have HX3:=y05h (HX.out.alloc (.cells #[.string x.id,.int .i64 x.r,.int .i64 x.c,.int .i64 x.st,.string x.kd,.int .i64 x.num,.complex .f64 x.x x.y,.bool x.d] 69))
     have HB3:=y05h (HB.out.alloc zw (.cells #[.string x.id,.int .i64 x.r,.int .i64 x.c,.int .i64 x.st,.string x.kd,.int .i64 x.num,.complex .f64 x.x x.y,.bool x.d] 69))
     have hown:(wr.alloc (.cells #[.string x.id,.int .i64 x.r,.int .i64 x.c,.int .i64 x.st,.string x.kd,.int .i64 x.num,.complex .f64 x.x x.y,.bool x.d] 69)).ownsRow (w.heap.size + 1) 69 8 sv (l.filter (fun i=>lsB i.id x.id)).length (zap (l.filter (fun i=>lsB i.id x.id))):=HO3.out
     go_wp2_with (at_builtin;refine wpList_append_lies _ (by rfl) _ _ _ (by rfl) (w.heap.size + 1) 69 i0 _ 8 88 Tryz.underlying41 hi hz0 hz1 hz2 rfl (by omega) sv (l.filter (fun i=>lsB i.id x.id)).length (zap (l.filter (fun i=>lsB i.id x.id))) (by rfl) hown ⟨wr.heap.size,0,none⟩ 1 1 (ic x) (by rfl) (by rfl) zhe (zc7 x) (by omega) (by unfold maxLen;omega) (by omega) (by simp;omega) (wr.heap.size + 1) (by simp) ?_;intro g cap' w3 hown3 hgrow hat hlt3)
     have R1:=y05h (OwnI.push hown3 rfl)
     have R2:=y05h (za3 HO3.out HB3.out (by omega) hgrow HB3.out.size)
     have R3:=y05h (HX3.out.grown hgrow (zbl HO3.out (by omega)))
     clear hown hown3 hgrow hat l1 HO HX HB HO3 HX3 HB3
     go_wp2_with fail
     go_loopw [5,7] (fun lv iv wr=>zqg (fun k=>(l.filter (fun i=>lsB i.id x.id) ++ [x]) ++ (l.take k).filter (fun i=>gtB i.id x.id)) len #[.string x.id,.int .i64 x.r,.int .i64 x.c,.int .i64 x.st,.string x.kd,.int .i64 x.num,.complex .f64 x.x x.y,.bool x.d] w lv iv wr) (fun _ iv _=>len - (intOf iv).toNat)
     case atStart=>exact ⟨0,_,Nat.zero_le _,rfl,rfl,y05h (by simpa using R1.out),R3,R2⟩
     case round =>
       obtain ⟨k,sv,hk,rfl,rfl,HO,HX,HB⟩:=hrel
       replace HO:=y05h (show OwnI wr (w.heap.size + 1) ((l.filter (fun i=>lsB i.id x.id) ++ [x]) ++ (l.take k).filter (fun i=>gtB i.id x.id)) sv from HO.out)
       by_cases hlt:k < len
       · obtain ⟨i,hi9⟩:∃ i,l[k]? = some i:=⟨_,List.getElem?_eq_getElem (by rw [HN.out];exact hlt)⟩
         obtain ⟨rfl,hb0⟩:=HR.out.at0 (by rw [HN.out];omega)
         obtain ⟨c0,c1,c2,c3,c4,c5,c6,c7⟩:=zaw (w:=wr) (fun j u hu=>(HB.out.cell (p:=⟨b,o + k * 8 + j,none⟩) hb0).trans (HR.out.cell k i hi9 j u hu))
         have zb:=Nat.lt_of_lt_of_le hb0 HB.out.size
         have r0:=fun dd os=>cell_regrown c0 dd os
         have LA:=fun dd os o=>HX.out.has.regrown dd os o
         have zw:=HB.out.size
         have HI:=y05h hi9
         have zx:=HX.out.lt
         have hk0:(0:Int) ≤ (k:Int):=by omega
         have hk1:(k:Int) < (len:Int):=by omega
         clear c0 c1 c2 c3 c4 c5 c6 c7 hi9
         cases ht:gtB i.id x.id
         · have HF:=y05h (zke (p:=(fun i=>gtB i.id x.id)) HI.out ht)
           have hg:=ht
           unfold gtB at hg
           go_wp2_with fail
           refine wp_region_quiet_below (by kernel_rfl) (by kernel_rfl) ?_
           repeat (first | go_big_quiet_step (fail) | quiet_step (fail))
           refine wpQuiet_nil ?_
           intro w7 hw'
           have hb':=y05h (zae hw')
           clear hw'
           clear r0 LA
           have HO7:=y05h (HO.out.later hb'.out)
           have HX7:=y05h (HX.out.later hb'.out)
           have HB7:=y05h (HB.out.trans (hb'.out.mono HB.out.size))
           go_wp2_with fail
           go_roundw
           case rel=>exact ⟨k + 1,_,by omega,by go_num,rfl,y05h (by show OwnI _ _ ((l.filter (fun i=>lsB i.id x.id) ++ [x]) ++ (l.take (k + 1)).filter (fun i=>gtB i.id x.id)) _;rw [HF.out];exact HO7.out),HX7,HB7⟩
           case measure=>simp [intOf];omega
         · have HF:=y05h (zl6 (p:=(fun i=>gtB i.id x.id)) HI.out ht)
           have hg:=ht
           unfold gtB at hg
           have hfl:((l.filter (fun i=>lsB i.id x.id) ++ [x]) ++ (l.take k).filter (fun i=>gtB i.id x.id)).length ≤ 20001:=by
             have h1:=zl5 (p:=(fun i=>gtB i.id x.id)) (l:=l) (k:=k)
             have h2:=List.length_filter_le (fun i=>lsB i.id x.id) l
             have h3:=HN.out
             try simp only [List.length_append,List.length_cons,List.length_nil] at *
             omega
           obtain ⟨nk,hnk⟩:∃ nk,nk = ((l.filter (fun i=>lsB i.id x.id) ++ [x]) ++ (l.take k).filter (fun i=>gtB i.id x.id)).length:=⟨_,rfl⟩
           rw [← hnk] at hfl
           go_wp2_with fail
           refine wp_region_quiet_below (by kernel_rfl) (by kernel_rfl) ?_
           repeat (first | go_big_quiet_step (fail) | quiet_step (fail))
           refine wpQuiet_nil ?_
           intro w7 hw'
           have hb':=y05h (zae hw')
           clear hw'
           clear r0 LA
           have HO7:=y05h (HO.out.later hb'.out)
           have HX7:=y05h (HX.out.later hb'.out)
           have HB7:=y05h (HB.out.trans (hb'.out.mono HB.out.size))
           have zw7:=HB7.out.size
           have zx7:=HX7.out.lt
           obtain ⟨d0,d1,d2,d3,d4,d5,d6,d7⟩:=zaw (w:=w7) (fun j u hu=>(HB7.out.cell (p:=⟨b,o + k * 8 + j,none⟩) hb0).trans (HR.out.cell k i HI.out j u hu))
           have zb7:=Nat.lt_of_lt_of_le hb0 HB7.out.size
           have HO3:=y05h (HO7.out.alloc (.cells #[.string i.id,.int .i64 i.r,.int .i64 i.c,.int .i64 i.st,.string i.kd,.int .i64 i.num,.complex .f64 i.x i.y,.bool i.d] 69))
           have HX3:=y05h (HX7.out.alloc (.cells #[.string i.id,.int .i64 i.r,.int .i64 i.c,.int .i64 i.st,.string i.kd,.int .i64 i.num,.complex .f64 i.x i.y,.bool i.d] 69))
           have HB3:=y05h (HB7.out.alloc zw7 (.cells #[.string i.id,.int .i64 i.r,.int .i64 i.c,.int .i64 i.st,.string i.kd,.int .i64 i.num,.complex .f64 i.x i.y,.bool i.d] 69))
           have hown:(w7.alloc (.cells #[.string i.id,.int .i64 i.r,.int .i64 i.c,.int .i64 i.st,.string i.kd,.int .i64 i.num,.complex .f64 i.x i.y,.bool i.d] 69)).ownsRow (w.heap.size + 1) 69 8 sv nk (zap ((l.filter (fun i=>lsB i.id x.id) ++ [x]) ++ (l.take k).filter (fun i=>gtB i.id x.id))):=by rw [hnk];exact HO3.out
           have HNK:=y05h hnk
           clear hnk
           go_wp2_with (at_builtin;refine wpList_append_lies _ (by rfl) _ _ _ (by rfl) (w.heap.size + 1) 69 i0 _ 8 88 Tryz.underlying41 hi hz0 hz1 hz2 rfl (by omega) sv nk (zap ((l.filter (fun i=>lsB i.id x.id) ++ [x]) ++ (l.take k).filter (fun i=>gtB i.id x.id))) (by rfl) hown ⟨w7.heap.size,0,none⟩ 1 1 (ic i) (by rfl) (by rfl) zhe (zc7 i) (by omega) (by unfold maxLen;omega) (by omega) (by simp;omega) (w7.heap.size + 1) (by simp) ?_;intro g cap' w3 hown3 hgrow hat hlt3)
           have R1:=y05h (OwnI.push hown3 (by rw [HNK.out]))
           have R2:=y05h (za3 HO3.out HB3.out (by omega) hgrow HB3.out.size)
           have R3:=y05h (HX3.out.grown hgrow (zbl HO3.out (by omega)))
           clear hown hown3 hgrow hat
           go_roundw
           case rel=>exact ⟨k + 1,_,by omega,by go_num,rfl,y05h (by show OwnI _ _ ((l.filter (fun i=>lsB i.id x.id) ++ [x]) ++ (l.take (k + 1)).filter (fun i=>gtB i.id x.id)) _;rw [HF.out];first | exact R1.out | (rw [← List.append_assoc];exact R1.out)),R3,R2⟩
           case measure=>simp [intOf];omega
       · have e:len = k:=by omega
         subst e
         have h1:=HO.out
         rw [List.take_of_length_le (by rw [HN.out];omega)] at h1
         have HO:=y05h h1
         clear h1
         go_wp2_with fail
         go_ret
         exact ⟨_,rfl,HO.out.mono (by omega),HB.out⟩
def low (c:UInt8):Bool:=decide (97 ≤ c.toNat) && decide (c.toNat ≤ 122)
def lows (l:List UInt8):Bool:=l.all low
def txtB (s:ByteArray):Bool:=decide (s.size ≤ 8) && lows s.data.toList
def zax (s:ByteArray):Bool:=decide (1 ≤ s.size) && txtB s
def feq (x y:Nat):Bool:=FloatKind.f64.format.order x y == some .eq
theorem zfv {x:Nat} (h:Fl.wb x = true):feq x x = true:=by
 have h1:=(Fl.wb_int h).1
 have h2:=Fl.order_int h1 h1
 unfold feq
 have h3:FloatKind.f64.format.order x x = some (compare (Fl.iv x) (Fl.iv x)):=h2
 rw [h3]
 simp
theorem zw5 {c:UInt8} (h1:97 ≤ c.toNat) (h2:c.toNat ≤ 122):low c = true:=by simp [low,h1,h2]
theorem zpz {c:UInt8} (h:c.toNat < 97):low c = false:=by simp [low];omega
theorem zpy {c:UInt8} (h:122 < c.toNat):low c = false:=by simp [low];omega
theorem zsa (s:ByteArray) (k:Nat) (h:k < s.size):s.data.toList.take (k + 1) = s.data.toList.take k ++ [s[k]]:=by
 rw [List.take_succ_eq_append_getElem (by simpa using h)];rfl
theorem zrf (s:ByteArray) (k:Nat) (h:k < s.size) (hl:lows (s.data.toList.take k) = true):lows (s.data.toList.take (k + 1)) = low s[k]:=by
 rw [zsa s k h]
 unfold lows at *
 rw [List.all_append,hl];simp
theorem zps (s:ByteArray) (k:Nat) (h:k < s.size) (hl:low s[k] = false):lows s.data.toList = false:=by
 unfold lows
 rw [List.all_eq_false]
 refine ⟨s[k],?_,by rw [hl];simp⟩
 have h':k < s.data.size:=h
 show s.data[k] ∈ s.data.toList
 exact Array.mem_toList_iff.2 (Array.getElem_mem h')
theorem ztf (s:ByteArray) (h:lows (s.data.toList.take s.size) = true):lows s.data.toList = true:=by
 rwa [List.take_of_length_le (by simp)] at h
theorem zjo (s:ByteArray) (w:World) :
   Calls Tryz.prog 142 #[.string s] w fun e w'=>e = .returned (.bool (txtB s)) ∧ w = w':=by
 by_cases h8:s.size ≤ 8
 · have e:txtB s = lows s.data.toList:=by simp [txtB,h8]
   rw [e]
   have h9:¬ (8:Int) < s.size:=by omega
   clear e
   go_enter Tryz.func142,Tryz.ntmps142
   go_wp2
   go_loop [3,9] (fun _ i=>∃ k:Nat,k ≤ s.size ∧ i = .int .i64 k ∧ lows (s.data.toList.take k) = true) (fun _ i=>s.size - (intOf i).toNat)
   case atStart=>exact ⟨0,Nat.zero_le _,rfl,by simp [lows]⟩
   case round =>
     obtain ⟨k,hk,rfl,hl⟩:=hrel
     by_cases hlt:k < s.size
     · have hn:=zrf s k hlt hl
       have HN:=y05h hn
       have HF:=y05h (zps s k hlt)
       clear hn
       have HL:=y05h hl
       clear hl
       by_cases a1:s[k].toNat < 97
       · have hz:=HF.out (zpz a1)
         have HZ:=y05h hz
         clear hz HF HN
         go_wp2
         go_ret
         exact ⟨zaa HZ.out.symm,rfl⟩
       · by_cases a2:122 < s[k].toNat
         · have hz:=HF.out (zpy a2)
           have HZ:=y05h hz
           clear hz HF HN
           go_wp2
           go_ret
           exact ⟨zaa HZ.out.symm,rfl⟩
         · have hz:=HN.out
           rw [zw5 (by omega) (by omega)] at hz
           have HZ:=y05h hz
           clear hz HF HN
           go_wp2
           go_round
           case rel=>exact ⟨k + 1,by omega,by go_num,HZ.out⟩
           case measure=>simp [intOf];omega
     · have e:k = s.size:=by omega
       subst e
       have HL:=y05h (ztf s hl)
       clear hl
       go_wp2
       go_ret
       exact ⟨zaa HL.out.symm,rfl⟩
 · have e:txtB s = false:=by simp [txtB,h8]
   rw [e]
   have h9:(8:Int) < s.size:=by omega
   go_enter Tryz.func142,Tryz.ntmps142
   go_wp2
   go_ret
   exact ⟨rfl,rfl⟩
structure Fr where
 ids:List ByteArray
 v:Nat → Int
structure Kn where
 star:Nat → Int
 l:List Fr
def eqV (A B:Nat → Int):Bool:=(List.range 8).all fun k=>A k == B k
theorem eqV_iff {A B:Nat → Int}:eqV A B = true ↔ ∀ k,k < 8 → A k = B k:=by simp [eqV,List.all_eq_true]
theorem zdm (A:Nat → Int):eqV A A = true:=eqV_iff.2 fun _ _=>rfl
def zac:Nat → Int:=fun _=>0
def zef (A:Nat → Int):Prop:=∀ j,8 ≤ j → A j = 0
theorem zwl {A B:Nat → Int} (hA:zef A) (hB:zef B) (h:eqV A B = true):A = B:=by
 funext j
 by_cases hj:j < 8
 · exact eqV_iff.1 h j hj
 · rw [hA j (by omega),hB j (by omega)]
def za9 (l:List ByteArray) (s:ByteArray):Bool:=l.any fun x=>x.toList == s.toList
theorem among_iff {l:List ByteArray} {s:ByteArray}:za9 l s = true ↔ s ∈ l:=by
 unfold za9
 rw [List.any_eq_true]
 constructor
 · rintro ⟨x,hx,e⟩;rw [tl_eq.1 e] at hx;exact hx
 · intro h;exact ⟨s,h,tl_eq.2 rfl⟩
def zb6 (s:ByteArray) (st:List ByteArray × Bool) (a:ByteArray):List ByteArray × Bool :=
 let p:=!st.2 && leB s a
 let o:=if p = true then st.1 ++ [s] else st.1
 (if (a.toList == s.toList) = true then o else o ++ [a],st.2 || p)
def insF (s:ByteArray) (l:List ByteArray):List ByteArray × Bool:=l.foldl (zb6 s) ([],false)
def insB (l:List ByteArray) (s:ByteArray):List ByteArray:=if (insF s l).2 = true then (insF s l).1 else (insF s l).1 ++ [s]
def insR (s:ByteArray):List ByteArray → List ByteArray
 | []=>[s]
 | a :: l=>if leB s a = true then s :: (a :: l).filter (fun x=>!(x.toList == s.toList)) else a :: insR s l
theorem zs8 (s:ByteArray) (l:List ByteArray):∀ o:List ByteArray,l.foldl (zb6 s) (o,true) = (o ++ l.filter (fun x=>!(x.toList == s.toList)),true):=by
 induction l with
 | nil=>intro o;simp
 | cons a l ih =>
   intro o
   rw [List.foldl_cons]
   have e:zb6 s (o,true) a = (if (a.toList == s.toList) = true then o else o ++ [a],true):=by simp [zb6]
   rw [e,ih]
   cases h:(a.toList == s.toList) <;> simp [h]
theorem zw4 (s:ByteArray) (l:List ByteArray):∀ o:List ByteArray,(if (l.foldl (zb6 s) (o,false)).2 = true then (l.foldl (zb6 s) (o,false)).1 else (l.foldl (zb6 s) (o,false)).1 ++ [s]) = o ++ insR s l:=by
 induction l with
 | nil=>intro o;simp [insR]
 | cons a l ih =>
   intro o
   rw [List.foldl_cons,insR]
   cases h:leB s a with
   | true =>
     have e:zb6 s (o,false) a = (if (a.toList == s.toList) = true then o ++ [s] else o ++ [s] ++ [a],true):=by simp [zb6,h]
     rw [e,zs8]
     cases h':(a.toList == s.toList) <;> simp [h']
   | false =>
     have hn:(a.toList == s.toList) = false:=tl_ne.2 (zez (zmr h))
     have e:zb6 s (o,false) a = (o ++ [a],false):=by simp [zb6,h,hn]
     rw [e,ih]
     simp
theorem zi6 (l:List ByteArray) (s:ByteArray):insB l s = insR s l:=by
 exact (zw4 s l []).trans (List.nil_append _)
theorem zok {l:List ByteArray} {s x:ByteArray}:x ∈ insB l s ↔ x = s ∨ x ∈ l:=by
 rw [zi6]
 induction l with
 | nil=>simp [insR]
 | cons a l ih =>
   rw [insR]
   cases h:leB s a with
   | true =>
     simp only [if_true,List.mem_cons,List.mem_filter,Bool.not_eq_true',tl_ne]
     constructor
     · rintro (h | ⟨h,_⟩)
       · exact .inl h
       · exact .inr h
     · rintro (h | h)
       · exact .inl h
       · by_cases e:x = s
         · exact .inl e
         · exact .inr ⟨h,e⟩
   | false =>
     simp only [Bool.false_eq_true,if_false,List.mem_cons,ih]
     constructor
     · rintro (h | h | h)
       · exact .inr (.inl h)
       · exact .inl h
       · exact .inr (.inr h)
     · rintro (h | h | h)
       · exact .inr (.inl h)
       · exact .inl h
       · exact .inr (.inr h)
theorem ztx {l:List ByteArray} {s:ByteArray} (h:Rise l):Rise (insB l s):=by
 rw [zi6]
 induction l with
 | nil=>simp [insR,Rise]
 | cons a l ih =>
   rw [rise_cons] at h
   rw [insR]
   cases hs:leB s a with
   | true =>
     rw [if_pos rfl,rise_cons]
     refine ⟨fun x hx=>?_,zfb (rise_cons.2 h)⟩
     rw [List.mem_filter] at hx
     obtain ⟨hx,hne⟩:=hx
     rw [Bool.not_eq_true',tl_ne] at hne
     have hax:x = a ∨ lsB a x = true:=by
       rcases List.mem_cons.1 hx with e | hx
       · exact .inl e
       · exact .inr (h.1 x hx)
     rcases le_iff.1 hs with h1 | h1
     · rcases hax with e | h2
       · subst e;exact h1
       · exact zba h1 h2
     · subst h1
       rcases hax with e | h2
       · exact absurd e hne
       · exact h2
   | false =>
     rw [if_neg (by simp),rise_cons]
     refine ⟨fun x hx=>?_,ih h.2⟩
     rw [← zi6,zok] at hx
     rcases hx with e | hx
     · subst e;exact zmr hs
     · exact h.1 x hx
theorem zvm (l:List ByteArray) (s:ByteArray):(insB l s).length ≤ l.length + 1:=by
 rw [zi6]
 induction l with
 | nil=>simp [insR]
 | cons a l ih =>
   rw [insR]
   split
   · have:=List.length_filter_le (fun x:ByteArray=>!(x.toList == s.toList)) (a :: l)
     simp only [List.length_cons] at *;omega
   · simp only [List.length_cons];omega
def zd0 (l:List ByteArray):List ByteArray:=l.foldl insB []
def zah (l:List Fr):List ByteArray:=l.flatMap (·.ids)
def zbd (k:Kn):List ByteArray:=zd0 (zah k.l)
theorem zgq (l:List ByteArray):∀ o:List ByteArray,Rise o → Rise (l.foldl insB o) ∧ (∀ x,x ∈ l.foldl insB o ↔ x ∈ o ∨ x ∈ l) ∧ (l.foldl insB o).length ≤ o.length + l.length:=by
 induction l with
 | nil=>intro o h;exact ⟨h,fun x=>by simp,by simp⟩
 | cons a l ih =>
   intro o h
   obtain ⟨h1,h2,h3⟩:=ih (insB o a) (ztx h)
   refine ⟨h1,fun x=>?_,?_⟩
   · rw [List.foldl_cons,h2,zok,List.mem_cons]
     constructor
     · rintro ((h | h) | h)
       · exact .inr (.inl h)
       · exact .inl h
       · exact .inr (.inr h)
     · rintro (h | h | h)
       · exact .inl (.inr h)
       · exact .inl (.inl h)
       · exact .inr h
   · have:=zvm o a
     simp only [List.foldl_cons,List.length_cons] at *;omega
theorem zif (l:List ByteArray):Rise (zd0 l):=(zgq l [] (by simp [Rise])).1
theorem mem_all {l:List ByteArray} {x:ByteArray}:x ∈ zd0 l ↔ x ∈ l:=by
 have:=(zgq l [] (by simp [Rise])).2.1 x
 unfold zd0
 simpa using this
theorem zoi (l:List ByteArray):(zd0 l).length ≤ l.length:=by
 have:=(zgq l [] (by simp [Rise])).2.2
 unfold zd0
 simpa using this
theorem mem_names {k:Kn} {x:ByteArray}:x ∈ zbd k ↔ ∃ f ∈ k.l,x ∈ f.ids:=by
 unfold zbd zah
 rw [mem_all,List.mem_flatMap]
def zbz (id:ByteArray) (A:Nat → Int) (f:Fr):Nat → Int:=if za9 f.ids id = true then maxV A f.v else A
def rawF (l:List Fr) (id:ByteArray):Nat → Int:=l.foldl (zbz id) zac
def beyB (k:Kn) (id:ByteArray) (j:Nat):Int:=if j < 8 then (if rawF k.l id j ≤ k.star j then 0 else rawF k.l id j) else 0
theorem zka (k:Kn) (id:ByteArray):zef (beyB k id):=fun j hj=>by unfold beyB;rw [if_neg (by omega)]
theorem zgx (id:ByteArray) (l:List Fr) (j:Nat):∀ A:Nat → Int,A j ≤ l.foldl (zbz id) A j ∧ (∀ f ∈ l,id ∈ f.ids → f.v j ≤ l.foldl (zbz id) A j) ∧ (l.foldl (zbz id) A j = A j ∨ ∃ f ∈ l,id ∈ f.ids ∧ l.foldl (zbz id) A j = f.v j):=by
 induction l with
 | nil=>intro A;simp
 | cons g l ih =>
   intro A
   rw [List.foldl_cons]
   obtain ⟨h1,h2,h3⟩:=ih (zbz id A g)
   have hs:A j ≤ zbz id A g j ∧ (id ∈ g.ids → g.v j ≤ zbz id A g j) ∧ (zbz id A g j = A j ∨ id ∈ g.ids ∧ zbz id A g j = g.v j):=by
     unfold zbz
     by_cases h:za9 g.ids id = true
     · rw [if_pos h]
       have hm:=among_iff.1 h
       unfold maxV
       split
       · exact ⟨by omega,fun _=>by omega,.inr ⟨hm,rfl⟩⟩
       · exact ⟨by omega,fun _=>by omega,.inl rfl⟩
     · rw [if_neg h]
       exact ⟨by omega,fun hm=>absurd (among_iff.2 hm) h,.inl rfl⟩
   refine ⟨by omega,fun f hf hm=>?_,?_⟩
   · rcases List.mem_cons.1 hf with e | hf
     · subst e;have:=hs.2.1 hm;omega
     · exact h2 f hf hm
   · rcases h3 with h3 | ⟨f,hf,hm,e⟩
     · rcases hs.2.2 with h | ⟨hm,h⟩
       · exact .inl (by rw [h3,h])
       · exact .inr ⟨g,by simp,hm,by rw [h3,h]⟩
     · exact .inr ⟨f,by simp [hf],hm,e⟩
theorem zcq (l:List Fr) (id:ByteArray) (j:Nat):0 ≤ rawF l id j:=(zgx id l j zac).1
theorem zfm {l:List Fr} {id:ByteArray} {f:Fr} (hf:f ∈ l) (hm:id ∈ f.ids) (j:Nat):f.v j ≤ rawF l id j:=(zgx id l j zac).2.1 f hf hm
theorem zen (l:List Fr) (id:ByteArray) (j:Nat):rawF l id j = 0 ∨ ∃ f ∈ l,id ∈ f.ids ∧ rawF l id j = f.v j:=(zgx id l j zac).2.2
theorem zio (k:Kn) (id:ByteArray) (j:Nat):0 ≤ beyB k id j:=by
 unfold beyB
 have:=zcq k.l id j
 split
 · split <;> omega
 · omega
theorem ztv {l:List Fr} {id:ByteArray} (h:∀ f ∈ l,id ∉ f.ids) (j:Nat):rawF l id j = 0:=by
 rcases zen l id j with h' | ⟨f,hf,hm,_⟩
 · exact h'
 · exact absurd hm (h f hf)
theorem zh1 {k:Kn} {id:ByteArray} (h:id ∉ zbd k):beyB k id = zac:=by
 have h0:=fun j=>ztv (l:=k.l) (id:=id) (fun f hf hm=>h (mem_names.2 ⟨f,hf,hm⟩)) j
 funext j
 unfold beyB zac
 rw [h0 j]
 split
 · split <;> rfl
 · rfl
theorem zjh (l m:List Fr) (id:ByteArray) (j:Nat):rawF (l ++ m) id j = maxV (rawF l id) (rawF m id) j:=by
 have a1:=zcq l id j
 have a2:=zcq m id j
 have a3:=zcq (l ++ m) id j
 have b1:rawF l id j ≤ rawF (l ++ m) id j:=by
   rcases zen l id j with h | ⟨f,hf,hm,e⟩
   · omega
   · rw [e];exact zfm (by simp [hf]) hm j
 have b2:rawF m id j ≤ rawF (l ++ m) id j:=by
   rcases zen m id j with h | ⟨f,hf,hm,e⟩
   · omega
   · rw [e];exact zfm (by simp [hf]) hm j
 have b3:rawF (l ++ m) id j ≤ rawF l id j ∨ rawF (l ++ m) id j ≤ rawF m id j:=by
   rcases zen (l ++ m) id j with h | ⟨f,hf,hm,e⟩
   · left;omega
   · rcases List.mem_append.1 hf with hf | hf
     · left;rw [e];exact zfm hf hm j
     · right;rw [e];exact zfm hf hm j
 unfold maxV
 split <;> omega
def putF (v:Nat → Int) (id:ByteArray):List Fr → List Fr
 | []=>[⟨[id],v⟩]
 | f :: l=>if eqV f.v v = true then ⟨f.ids ++ [id],f.v⟩ :: l else f :: putF v id l
def zaq (F:ByteArray → Nat → Int) (o:List Fr) (id:ByteArray):List Fr:=if eqV (F id) zac = true then o else putF (F id) id o
def grpF (F:ByteArray → Nat → Int) (ids:List ByteArray):List Fr:=ids.foldl (zaq F) []
def zaf (k:Kn):Kn:=⟨k.star,grpF (beyB k) (zbd k)⟩
def zat (k:Kn) (id:ByteArray) (r c:Int):Kn:=⟨k.star,k.l ++ [⟨[id],zau zac r c⟩]⟩
def ownK (k:Kn) (id:ByteArray) (r c:Int):Kn:=if (r < 1 ∨ 8 < r ∨ c < 1) ∨ k.star (r - 1).toNat ≠ c - 1 then zat k id r c else ⟨zau k.star r c,k.l⟩
def zev (id:ByteArray) (r c:Int) (f:Fr):Bool:=za9 f.ids id && hasV f.v r c
def hasK (k:Kn) (id:ByteArray) (r c:Int):Bool:=hasV k.star r c || k.l.any (zev id r c)
def zbo:List ByteArray → List ByteArray → Bool
 | [],[]=>true
 | a :: l,b :: m=>(a.toList == b.toList) && zbo l m
 | _,_=>false
def eqFr (a b:Fr):Bool:=eqV a.v b.v && zbo a.ids b.ids
def zbg:List Fr → List Fr → Bool
 | [],[]=>true
 | a :: l,b :: m=>eqFr a b && zbg l m
 | _,_=>false
def zbk (a b:Kn):Bool:=eqV a.star b.star && zbg a.l b.l
theorem zi0:∀ l:List ByteArray,zbo l l = true
 | []=>rfl
 | a :: l=>by simp [zbo,zi0 l]
theorem ziz:∀ l:List Fr,zbg l l = true
 | []=>rfl
 | a :: l=>by simp [zbg,eqFr,zdm,zi0,ziz l]
theorem zlo {a b:Kn} (hs:eqV a.star b.star = true) (hl:a.l = b.l):zbk a b = true:=by
 unfold zbk;rw [hs,hl,ziz];rfl
theorem zil (a:Kn):zbk a a = true:=zlo (zdm _) rfl
theorem zi4 (F:ByteArray → Nat → Int) (ids:List ByteArray):∀ o:List Fr,ids.foldl (zaq F) o = (ids.filter fun x=>!eqV (F x) zac).foldl (zaq F) o:=by
 induction ids with
 | nil=>intro o;rfl
 | cons a l ih =>
   intro o
   rw [List.foldl_cons,ih]
   cases h:eqV (F a) zac with
   | true=>simp [h,zaq]
   | false=>simp [h]
theorem zek {v:Nat → Int} {id:ByteArray}:∀ {o:List Fr} {f:Fr},f ∈ putF v id o → f ∈ o ∨ f = ⟨[id],v⟩ ∨ ∃ g ∈ o,eqV g.v v = true ∧ f = ⟨g.ids ++ [id],g.v⟩
 | [],f,h=>by simp only [putF,List.mem_singleton] at h;exact .inr (.inl h)
 | g :: o,f,h=>by
   rw [putF] at h
   by_cases e:eqV g.v v = true
   · rw [if_pos e] at h
     rcases List.mem_cons.1 h with h | h
     · exact .inr (.inr ⟨g,by simp,e,h⟩)
     · exact .inl (by simp [h])
   · rw [if_neg e] at h
     rcases List.mem_cons.1 h with h | h
     · exact .inl (by simp [h])
     · rcases zek h with h | h | ⟨g',hg,e',h⟩
       · exact .inl (by simp [h])
       · exact .inr (.inl h)
       · exact .inr (.inr ⟨g',by simp [hg],e',h⟩)
theorem zoq {v:Nat → Int} {id:ByteArray}:∀ {o:List Fr},∃ f ∈ putF v id o,id ∈ f.ids
 | []=>⟨⟨[id],v⟩,by simp [putF],by simp⟩
 | g :: o=>by
   rw [putF]
   by_cases e:eqV g.v v = true
   · rw [if_pos e];exact ⟨⟨g.ids ++ [id],g.v⟩,by simp,by simp⟩
   · rw [if_neg e]
     obtain ⟨f,hf,hm⟩:=zoq (v:=v) (id:=id) (o:=o)
     exact ⟨f,by simp [hf],hm⟩
theorem zks {v:Nat → Int} {id x:ByteArray}:∀ {o:List Fr},(∃ f ∈ o,x ∈ f.ids) → ∃ f ∈ putF v id o,x ∈ f.ids
 | [],⟨f,hf,_⟩=>by simp at hf
 | g :: o,⟨f,hf,hm⟩=>by
   rw [putF]
   by_cases e:eqV g.v v = true
   · rw [if_pos e]
     rcases List.mem_cons.1 hf with h | h
     · subst h;exact ⟨⟨f.ids ++ [id],f.v⟩,by simp,by simp [hm]⟩
     · exact ⟨f,by simp [h],hm⟩
   · rw [if_neg e]
     rcases List.mem_cons.1 hf with h | h
     · subst h;exact ⟨f,by simp,hm⟩
     · obtain ⟨f',hf',hm'⟩:=zks (v:=v) (id:=id) (o:=o) ⟨f,h,hm⟩
       exact ⟨f',by simp [hf'],hm'⟩
theorem zq1 {F:ByteArray → Nat → Int} (hF:∀ x,zef (F x)) (ids:List ByteArray):∀ o:List Fr,(∀ f ∈ o,zef f.v ∧ ∀ x ∈ f.ids,f.v = F x) →
   (∀ f ∈ ids.foldl (zaq F) o,zef f.v ∧ ∀ x ∈ f.ids,f.v = F x) ∧ (∀ x,(∃ f ∈ o,x ∈ f.ids) ∨ (x ∈ ids ∧ eqV (F x) zac = false) → ∃ f ∈ ids.foldl (zaq F) o,x ∈ f.ids):=by
 induction ids with
 | nil=>intro o h;exact ⟨h,fun x hx=>by rcases hx with hx | ⟨hx,_⟩;exact hx;simp at hx⟩
 | cons a l ih =>
   intro o h
   rw [List.foldl_cons]
   cases e:eqV (F a) zac with
   | true =>
     have:zaq F o a = o:=by simp [zaq,e]
     rw [this]
     refine ⟨(ih o h).1,fun x hx=>(ih o h).2 x ?_⟩
     rcases hx with hx | ⟨hx,hz⟩
     · exact .inl hx
     · rcases List.mem_cons.1 hx with h' | h'
       · subst h';rw [e] at hz;cases hz
       · exact .inr ⟨h',hz⟩
   | false =>
     have e':zaq F o a = putF (F a) a o:=by simp [zaq,e]
     rw [e']
     have h1:∀ f ∈ putF (F a) a o,zef f.v ∧ ∀ x ∈ f.ids,f.v = F x:=by
       intro f hf
       rcases zek hf with hf | hf | ⟨g,hg,eg,hf⟩
       · exact h f hf
       · subst hf
         exact ⟨hF a,fun x hx=>by simp at hx;rw [hx]⟩
       · subst hf
         refine ⟨(h g hg).1,fun x hx=>?_⟩
         rcases List.mem_append.1 hx with hx | hx
         · exact (h g hg).2 x hx
         · simp at hx;subst hx;exact zwl (h g hg).1 (hF x) eg
     refine ⟨(ih _ h1).1,fun x hx=>(ih _ h1).2 x ?_⟩
     rcases hx with hx | ⟨hx,hz⟩
     · exact .inl (zks hx)
     · rcases List.mem_cons.1 hx with h' | h'
       · subst h';exact .inl zoq
       · exact .inr ⟨h',hz⟩
theorem zor {v:Nat → Int} {id x:ByteArray}:∀ {o:List Fr},(∃ f ∈ putF v id o,x ∈ f.ids) → x = id ∨ ∃ f ∈ o,x ∈ f.ids:=by
 rintro o ⟨f,hf,hm⟩
 rcases zek hf with hf | hf | ⟨g,hg,_,hf⟩
 · exact .inr ⟨f,hf,hm⟩
 · subst hf;simp at hm;exact .inl hm
 · subst hf
   rcases List.mem_append.1 hm with hm | hm
   · exact .inr ⟨g,hg,hm⟩
   · simp at hm;exact .inl hm
theorem zgk (k:Kn):beyB (zaf k) = beyB k:=by
 obtain ⟨f1,f2⟩:=zq1 (F:=beyB k) (zka k) (zbd k) [] (fun f hf=>by simp at hf)
 funext id j
 have hr:rawF (zaf k).l id j = if j < 8 then beyB k id j else rawF (zaf k).l id j:=by
   by_cases hj:j < 8
   · rw [if_pos hj]
     have h0:=zio k id j
     have hle:rawF (zaf k).l id j ≤ beyB k id j:=by
       rcases zen (zaf k).l id j with h | ⟨f,hf,hm,e⟩
       · omega
       · rw [e,(f1 f hf).2 id hm];omega
     cases ez:eqV (beyB k id) zac with
     | true =>
       have:=eqV_iff.1 ez j hj
       have h1:=zcq (zaf k).l id j
       unfold zac at this
       omega
     | false =>
       have hn:id ∈ zbd k:=by
         by_cases hn:id ∈ zbd k
         · exact hn
         · rw [zh1 hn,zdm] at ez;cases ez
       obtain ⟨f,hf,hm⟩:=f2 id (.inr ⟨hn,ez⟩)
       have:=zfm (l:=(zaf k).l) hf hm j
       rw [(f1 f hf).2 id hm] at this
       omega
   · rw [if_neg hj]
 show (if j < 8 then (if rawF (zaf k).l id j ≤ (zaf k).star j then 0 else rawF (zaf k).l id j) else 0) = beyB k id j
 by_cases hj:j < 8
 · rw [if_pos hj] at hr ⊢
   rw [hr]
   show (if beyB k id j ≤ k.star j then 0 else beyB k id j) = beyB k id j
   unfold beyB
   rw [if_pos hj]
   split
   · split <;> rfl
   · rfl
 · rw [if_neg hj];exact (zka k id j (by omega)).symm
theorem zoo {k k':Kn} (h:beyB k = beyB k'):(zaf k).l = (zaf k').l:=by
 show (zbd k).foldl (zaq (beyB k)) [] = (zbd k').foldl (zaq (beyB k')) []
 rw [zi4,zi4 (beyB k'),← h]
 congr 1
 refine zm0 (zfb (zif _)) (zfb (zif _)) fun x=>?_
 rw [List.mem_filter,List.mem_filter]
 constructor
 · rintro ⟨_,h2⟩
   refine ⟨?_,h2⟩
   by_cases hn:x ∈ zbd k'
   · exact hn
   · rw [h,zh1 hn,zdm] at h2;cases h2
 · rintro ⟨_,h2⟩
   refine ⟨?_,h2⟩
   by_cases hn:x ∈ zbd k
   · exact hn
   · rw [zh1 hn,zdm] at h2;cases h2
theorem zog (k:Kn) (id:ByteArray) (r c:Int):hasK k id r c = (hasV k.star r c || hasV (beyB k id) r c):=by
 unfold hasK
 rw [Bool.eq_iff_iff]
 simp only [Bool.or_eq_true,List.any_eq_true,zev,Bool.and_eq_true,among_iff]
 unfold hasV cntV
 simp only [Bool.and_eq_true,decide_eq_true_eq]
 by_cases hr:1 ≤ r ∧ r ≤ 8
 · simp only [if_pos hr]
   have hj:(r - 1).toNat < 8:=by omega
   generalize (r - 1).toNat = j at *
   have hb:beyB k id j = if rawF k.l id j ≤ k.star j then 0 else rawF k.l id j:=by unfold beyB;rw [if_pos hj]
   rw [hb]
   constructor
   · rintro (h | ⟨f,hf,hm,h1,h2⟩)
     · exact .inl h
     · have:=zfm hf hm j
       by_cases hc:c ≤ k.star j
       · exact .inl ⟨h1,hc⟩
       · right
         rw [if_neg (by omega)]
         exact ⟨h1,by omega⟩
   · rintro (h | ⟨h1,h2⟩)
     · exact .inl h
     · right
       split at h2
       · omega
       · rcases zen k.l id j with h | ⟨f,hf,hm,e⟩
         · omega
         · exact ⟨f,hf,hm,h1,by omega⟩
 · simp only [if_neg hr]
   constructor
   · rintro (h | ⟨f,_,_,h1,h2⟩)
     · exact .inl h
     · omega
   · rintro (h | h)
     · exact .inl h
     · omega
theorem zew (k:Kn) (id:ByteArray) (r c:Int):hasK (zaf k) id r c = hasK k id r c:=by
 rw [zog,zog k,zgk];rfl
theorem zth (A B:Nat → Int) (j:Nat):maxV (maxV A B) B j = maxV A B j:=by
 unfold maxV
 repeat' split
 all_goals omega
theorem zh9 (k:Kn) (id other:ByteArray) (r c yr yc:Int):hasK (zat k id r c) other yr yc = (hasK k other yr yc || ((id.toList == other.toList) && hasV (zau zac r c) yr yc)):=by
 unfold hasK zat
 rw [List.any_append]
 simp [zev,za9,Bool.or_assoc]
theorem zf9 (k:Kn) (id:ByteArray) {r c:Int} (h1:1 ≤ r) (h2:r ≤ 8) (h3:1 ≤ c):hasK (zaf (zat k id r c)) id r c = true:=by
 rw [zew,zh9,zub]
 simp [h1,h2,h3]
theorem zna (k:Kn) (id other:ByteArray) (r c yr yc:Int) (h:hasK k other yr yc = true):hasK (zaf (zat k id r c)) other yr yc = true:=by
 rw [zew,zh9,h];rfl
theorem zj2 (k:Kn) (id other:ByteArray) (r c yr yc:Int) (h:hasK (zaf (zat k id r c)) other yr yc = true):hasK (zaf (ownK k id r c)) other yr yc = true:=by
 unfold ownK
 split
 · exact h
 · rename_i hc
   rw [zew,zh9,Bool.or_eq_true] at h
   rw [zew]
   have hc1:1 ≤ r ∧ r ≤ 8 ∧ 1 ≤ c ∧ k.star (r - 1).toNat = c - 1:=by omega
   rcases h with h | h
   · unfold hasK at *
     rw [Bool.or_eq_true] at *
     rcases h with h | h
     · exact .inl (zw1 (zvl _ _ _) h)
     · exact .inr h
   · rw [Bool.and_eq_true] at h
     unfold hasK
     rw [Bool.or_eq_true]
     left
     have h2:=h.2
     show hasV (zau k.star r c) yr yc = true
     unfold hasV cntV at *
     simp only [Bool.and_eq_true,decide_eq_true_eq] at *
     refine ⟨h2.1,?_⟩
     have h3:=h2.2
     split at h3
     · rename_i hr
       rw [if_pos hr]
       unfold zau zac at *
       by_cases e:(yr - 1).toNat = (r - 1).toNat
       · rw [if_pos (by omega)] at h3
         have:(yr - 1).toNat = (r - 1).toNat ∧ 1 ≤ r ∧ r ≤ 8 ∧ k.star (yr - 1).toNat < c:=by
           refine ⟨e,by omega,by omega,?_⟩
           rw [e];omega
         rw [if_pos this];exact h3
       · rw [if_neg (by omega)] at h3;omega
     · omega
end Go.Proofs.YthnllikalobmeaaGreat
