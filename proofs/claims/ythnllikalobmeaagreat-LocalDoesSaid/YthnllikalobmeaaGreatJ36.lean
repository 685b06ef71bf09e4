/- Joined: LocM1, KCodeB, KCodeD, LocM2. -/
import Derived.Test.YthnllikalobmeaaGreatJ32
import Derived.Test.YthnllikalobmeaaGreatJ33
import Derived.Test.YthnllikalobmeaaGreatJ35
import Derived.Test.YthnllikalobmeaaGreatJ15
import Derived.Test.YthnllikalobmeaaGreatJ18
import Derived.Deep.RegionHeld3
import Derived.Lib.QuietBelow
import Derived.BigQuiet
import Derived.Test.YthnllikalobmeaaGreatJ34
import Derived.Test.YthnllikalobmeaaGreatJ03
import Derived.Deep.RegionLaw
import Derived.Test.YthnllikalobmeaaGreatJ23
namespace Go.Proofs.YthnllikalobmeaaGreat
set_option linter.unusedVariables false
set_option linter.unusedSimpArgs false
set_option maxRecDepth 100000
set_option maxHeartbeats 8000000
open Go.RowKit
theorem y36h {p:Prop} (h:p):Hid p:=Lib.hid h
theorem zce {P:Program} {ops:Array Oper} {rest:List Oper} {op:Oper} {a:Act} {w:World} {Q:Exit → Act → World → Prop} (hw:Region.wanted op (yielded ops a.tmps) = true) (ty:TypeId) (x:Operand) (ho:op.op = .load ty x)
   (b o:Nat) (hx:a.eval x = .pointer (some ⟨b,o,none⟩)) (cs:List Value) (d:TypeDesc) (hc:w.rangeAt b o cs)
   (hu:P.underlying ty = some d) (hd:d.isRow = true) (hi:(P.info? ty).map (·.size) = some cs.length)
   (h:wpList P ops Q rest (a.put op.dst (.agg cs.toArray)) w):wpList P ops Q (op :: rest) a w :=
 wpList_step fun K hK=>by rw [if_pos hw];exact wp_load_mid ty x ho b o hx cs d hc hu hd hi (hK _ _ h)
theorem zcj (n a b:Int) (w:World) :
   Calls Tryz.prog 45 #[.int .i64 n,.int .i64 a,.int .i64 b] w fun e w'=>e = .returned (.bool (inB n a b)) ∧ w = w':=by
 unfold inB
 by_cases h:a ≤ n <;> by_cases h':n ≤ b <;>
 ( go_enter Tryz.func45,Tryz.ntmps45
   go_wp2
   go_ret
   exact ⟨zaa (by simp [h,h']),rfl⟩ )
theorem ze1 (x:Itm) (p:Pr) (v:Value) (w:World) (hL:LP w p v) (hx:x.id.size ≤ maxLen) :
   Calls Tryz.prog 30 #[prV p v,iV x] w fun e w'=>e = .returned (.bool (hasT p x)) ∧ Below w.heap.size w w':=zuf x.it x.r x.c x.st x.d hx p v w hL
def zd1 (s:St) (x:Itm):Bool:=(getI s.out x.id).2 || !hasT s.f x
def zbw (s:St) (x:Itm):Bool:=decide (x.st > s.clock) || !hasK s.k x.id x.r x.c
def zei (s:St) (k:Nat) (f:Fr):Bool:=decide (f.v k > s.count)
structure StO (w:World) (s:St) (fv sv ov kv:Value) (b:Nat):Prop where
 o:Own w b (stA s fv sv ov kv) 43
 w:StW w s fv sv ov kv
theorem StO.later {w w':World} {s:St} {fv sv ov kv:Value} {b:Nat} (h:StO w s fv sv ov kv b) (hb:Below w.heap.size w w'):StO w' s fv sv ov kv b:=⟨h.o.later hb,h.w.later hb⟩
theorem StO.alloc {w:World} {s:St} {fv sv ov kv:Value} {b:Nat} (h:StO w s fv sv ov kv b) (o:Obj):StO (w.alloc o) s fv sv ov kv b:=⟨h.o.alloc o,h.w.alloc o⟩
theorem StO.drew {w:World} {s:St} {fv sv ov kv:Value} {b:Nat} (h:StO w s fv sv ov kv b):StO w.drew s fv sv ov kv b:=⟨h.o.drew,h.w.drew⟩
theorem zo0 (s:St) (fv sv ov kv:Value) (b:Nat) (x:Itm) (w:World) (hO:StO w s fv sv ov kv b) (hx:x.id.size ≤ maxLen) :
   Calls Tryz.prog 76 #[iV x,.pointer (some ⟨b,0,none⟩)] w fun e w'=>e = .returned (.bool (hasT s.f x)) ∧ Below w.heap.size w w':=by
 obtain ⟨of_,cf,rfl⟩:=zal hO.w.lf
 have OX:=y36h (Own.new w (iA x) 69)
 have OS:=y36h (hO.alloc (.cells (iA x) 69))
 have BE:=y36h ((Below.refl w.heap.size w).alloc (Nat.le_refl _) (.cells (iA x) 69))
 have CH:=y36h (ze1 x s.f _ _ OS.out.w.lf hx)
 have lx:=OX.out.cell
 have ls:=OS.out.o.cell
 have zs:=OS.out.o.lt
 clear hO
 generalize hasT s.f x = hb at *
 go_enter Tryz.func76,Tryz.ntmps76
 go_wp2_with (go_at_call 30;refine CH.out.mono ?_;rintro e w3 ⟨rfl,hb3⟩)
 go_ret
 exact ⟨rfl,BE.out.trans (hb3.mono BE.out.size)⟩
theorem znz (s:St) (fv sv ov kv:Value) (b:Nat) (x:Itm) (w:World) (hO:StO w s fv sv ov kv b) (hr:zao s.out) (hl:s.out.length ≤ 1000) (hx:x.id.size ≤ maxLen) :
   Calls Tryz.prog 74 #[iV x,.pointer (some ⟨b,0,none⟩)] w fun e w'=>e = .returned (.bool (zd1 s x)) ∧ Below w.heap.size w w':=by
 obtain ⟨of_,cf,rfl⟩:=zal hO.w.lf
 obtain ⟨oo,co,rfl⟩:=hO.w.lo.val
 have OX:=y36h (Own.new w (iA x) 69)
 have OS:=y36h (hO.alloc (.cells (iA x) 69))
 have BE:=y36h ((Below.refl w.heap.size w).alloc (Nat.le_refl _) (.cells (iA x) 69))
 have CG:=y36h (zen s.out x.id _ _ OS.out.w.lo hr hl hx)
 have lx:=OX.out.cell
 have zx:=OX.out.lt
 have ls:=OS.out.o.cell
 have zs:=OS.out.o.lt
 have e:zd1 s x = ((getI s.out x.id).2 || !hasT s.f x):=rfl
 rw [e]
 clear hO e
 have CH:=fun w' h=>y36h (ze1 x s.f (.slice of_ s.f.kids.length cf) w' h hx)
 generalize hasT s.f x = hb at *
 generalize (getI s.out x.id).1 = y at *
 cases hg:(getI s.out x.id).2
 · rw [hg] at CG
   go_enter Tryz.func74,Tryz.ntmps74
   go_upto_region 2 with (go_at_call 75;refine CG.out.mono ?_;rintro e w3 ⟨rfl,hb3⟩;clear lx zx ls zs;replace OX:=y36h (OX.out.later hb3);replace OS:=y36h (OS.out.later hb3);replace BE:=y36h (BE.out.trans (hb3.mono BE.out.size));clear hb3)
   replace OX:=y36h (OX.out.alloc (.cells (iA y) 69))
   replace OS:=y36h (OS.out.alloc (.cells (iA y) 69))
   replace BE:=y36h (BE.out.alloc BE.out.size (.cells (iA y) 69))
   have lx:=OX.out.cell
   have zx:=OX.out.lt
   have ls:=OS.out.o.cell
   have zs:=OS.out.o.lt
   have CH:=CH _ OS.out.w.lf
   go_wp2_with (go_at_call 30;refine CH.out.mono ?_;rintro e w4 ⟨rfl,hb4⟩)
   go_ret
   exact ⟨zaa (by simp),BE.out.trans (hb4.mono BE.out.size)⟩
 · rw [hg] at CG
   go_enter Tryz.func74,Tryz.ntmps74
   go_wp2_with (go_at_call 75;refine CG.out.mono ?_;rintro e w3 ⟨rfl,hb3⟩)
   go_ret
   exact ⟨zaa (by simp),(BE.out.trans (hb3.mono BE.out.size)).alloc (by have:=BE.out.size;have:=hb3.size;omega) _⟩
theorem zhs (s:St) (fv sv ov kv:Value) (b:Nat) (x:Itm) (w:World) (hO:StO w s fv sv ov kv b) (hx:x.id.size ≤ maxLen) :
   Calls Tryz.prog 82 #[iV x,.pointer (some ⟨b,0,none⟩)] w fun e w'=>e = .returned (.bool (zbw s x)) ∧ Below w.heap.size w w':=by
 obtain ⟨ok,ck,rfl⟩:=hO.w.lk.val
 have OX:=y36h (Own.new w (iA x) 69)
 have OS:=y36h (hO.alloc (.cells (iA x) 69))
 have BE:=y36h ((Below.refl w.heap.size w).alloc (Nat.le_refl _) (.cells (iA x) 69))
 have CK:=y36h (zna s.k x.id x.r x.c _ _ OS.out.w.lk hx)
 have lx:=OX.out.cell
 have zx:=OX.out.lt
 have ls:=OS.out.o.cell
 have zs:=OS.out.o.lt
 clear hO
 unfold zbw
 by_cases h:x.st > s.clock
 · go_enter Tryz.func82,Tryz.ntmps82
   go_wp2_with fail
   go_ret
   exact ⟨zaa (by simp [h]),BE.out⟩
 · generalize hasK s.k x.id x.r x.c = hb at *
   have h':decide (s.clock < x.st) = false:=decide_eq_false (by omega)
   go_enter Tryz.func82,Tryz.ntmps82
   go_wp2_with (go_at_call 28;refine CK.out.mono ?_;rintro e w3 ⟨rfl,hb3⟩)
   go_ret
   exact ⟨zaa (by simp [h']),BE.out.trans (hb3.mono BE.out.size)⟩
theorem z0q (f:Fr) (u:Value) {k:Nat} (hk:k < 8):(#[u,.int .i64 (f.v 0),.int .i64 (f.v 1),.int .i64 (f.v 2),.int .i64 (f.v 3),.int .i64 (f.v 4),.int .i64 (f.v 5),.int .i64 (f.v 6),.int .i64 (f.v 7)]:Array Value)[1 + k]? = some (.int .i64 (f.v k)):=by
 match k,hk with
 | 0,_ | 1,_ | 2,_ | 3,_ | 4,_ | 5,_ | 6,_ | 7,_=>rfl
theorem zxz (s:St) (fv sv ov kv:Value) {k:Nat} (hk:k < 8):(stA s fv sv ov kv)[8 + k]? = some (.int .i64 (s.k.star k)):=by
 match k,hk with
 | 0,_ | 1,_ | 2,_ | 3,_ | 4,_ | 5,_ | 6,_ | 7,_=>rfl
theorem zp9 (s:St) (fv sv ov kv:Value) (b k:Nat) (hk:k < 8) (hr:s.r = (k:Int) + 1) (f:Fr) (u:Value) (w:World) (hO:Own w b (stA s fv sv ov kv) 43) (hT:TxW w f.ids u) :
   Calls Tryz.prog 83 #[frV f u,.pointer (some ⟨b,0,none⟩)] w fun e w'=>e = .returned (.bool (zei s k f)) ∧ Below w.heap.size w w':=by
 obtain ⟨ou,cu,rfl⟩:=hT.val
 have OX:=y36h (Own.new w #[.slice ou f.ids.length cu,.int .i64 (f.v 0),.int .i64 (f.v 1),.int .i64 (f.v 2),.int .i64 (f.v 3),.int .i64 (f.v 4),.int .i64 (f.v 5),.int .i64 (f.v 6),.int .i64 (f.v 7)] 105)
 have OS:=y36h (hO.alloc (.cells #[.slice ou f.ids.length cu,.int .i64 (f.v 0),.int .i64 (f.v 1),.int .i64 (f.v 2),.int .i64 (f.v 3),.int .i64 (f.v 4),.int .i64 (f.v 5),.int .i64 (f.v 6),.int .i64 (f.v 7)] 105))
 have BE:=y36h ((Below.refl w.heap.size w).alloc (Nat.le_refl _) (.cells #[.slice ou f.ids.length cu,.int .i64 (f.v 0),.int .i64 (f.v 1),.int .i64 (f.v 2),.int .i64 (f.v 3),.int .i64 (f.v 4),.int .i64 (f.v 5),.int .i64 (f.v 6),.int .i64 (f.v 7)] 105))
 have LX:=fun dd os=>(OX.out.has.regrown dd os (1 + k)).trans (z0q f _ hk)
 have LS:=fun dd os=>(OS.out.has.regrown dd os 0).trans (show _ = some (Value.int .i64 ((k:Int) + 1)) from by rw [← hr];rfl)
 have LT:=fun dd os=>(OS.out.has.regrown dd os 17).trans (show _ = some (Value.int .i64 s.count) from rfl)
 have zx:=OX.out.lt
 have zs:=OS.out.lt
 unfold zei
 have k0:(0:Int) ≤ (k:Int):=by omega
 have k1:(k:Int) < 8:=by omega
 have k2:(k:Int) + 1 - 1 = k:=by omega
 clear hO hT hr
 generalize f.v k = fk at *
 go_enter Tryz.func83,Tryz.ntmps83
 go_wp2_with fail
 refine wp_region_quiet_below (by kernel_rfl) (by kernel_rfl) ?_
 repeat (first | go_big_quiet_step (fail) | quiet_step (fail))
 refine wpQuiet_nil ?_
 intro w7 hw'
 have hb7:=zac hw'
 clear hw' LX LS LT
 go_wp2_with fail
 go_ret
 exact ⟨rfl,BE.out.trans (hb7.mono BE.out.size)⟩
theorem zfq {P:Itm → Bool} {l:List Itm} {k:Nat} {f:Itm} (hf:l[k]? = some f) (h:(l.take k).any P = false) (hs:P f = false):(l.take (k + 1)).any P = false:=by
 rw [zd2 hf,List.any_append,h];simp [hs]
def FstI (P:Itm → Bool) (l:List Itm) (n:Int):Prop:=(∃ (k:Nat) (x:Itm),l[k]? = some x ∧ P x = true ∧ n = k ∧ (l.take k).any P = false) ∨ (n = -1 ∧ l.any P = false)
theorem FstI.any {P:Itm → Bool} {l:List Itm} {n:Int} (h:FstI P l n):decide (0 ≤ n) = l.any P:=by
 rcases h with ⟨k,x,hx,hp,rfl,_⟩ | ⟨rfl,h⟩
 · rw [List.any_eq_true.2 ⟨x,List.mem_of_getElem? hx,hp⟩];simp
 · rw [h];rfl
def znr (P:Itm → Bool) (l:List Itm) (n:Nat) (w0:World) (i:Value) (wr:World):Prop:=∃ k:Nat,k ≤ n ∧ i = .int .i64 k ∧ Hid ((l.take k).any P = false) ∧ Hid (Below w0.heap.size w0 wr)
theorem zix (P:Itm → Bool) (l:List Itm) (v:Value) (bx:Nat) (w:World) (hR:Row 8 ic w l v) (C:∀ w',Below w.heap.size w w' → ∀ x ∈ l,Calls Tryz.prog 74 #[iV x,.pointer (some ⟨bx,0,none⟩)] w' fun e w''=>e = .returned (.bool (P x)) ∧ Below w'.heap.size w' w'') :
   Calls Tryz.prog 104 #[v,.func (Fn.func 74) #[] #[.pointer (some ⟨bx,0,none⟩)]] w fun e w'=>∃ n:Int,e = .returned (.int .i64 n) ∧ FstI P l n ∧ Below w.heap.size w w':=by
 obtain ⟨oa,cap,b,o,rfl,hF⟩:=hR
 have h1:=hF.len
 have h2:=hF.max
 unfold maxLen at h2
 have HF:=y36h hF
 have HC:=y36h C
 clear hF C
 generalize hn:l.length = n at *
 have HN:=y36h hn
 clear hn
 go_enter Tryz.func104,Tryz.ntmps104
 go_wp2_with fail
 go_loopw [8] (fun i wr=>znr P l n w i wr) (fun i _=>n - (intOf i).toNat)
 case atStart=>exact ⟨0,Nat.zero_le _,rfl,by simp [Hid],y36h (Below.refl _ _)⟩
 case round =>
   obtain ⟨k,hk,rfl,HS,HB⟩:=hrel
   by_cases hlt:k < n
   · obtain ⟨x,hx⟩:∃ x,l[k]? = some x:=⟨_,List.getElem?_eq_getElem (by rw [HN.out];exact hlt)⟩
     obtain ⟨rfl,hb⟩:=HF.out.at0 (by rw [HN.out];omega)
     obtain ⟨c0,c1,c2,c3,c4,c5,c6,c7⟩:=zav (w:=wr) (fun j u hu=>(HB.out.cell (p:=⟨b,o + k * 8 + j,none⟩) hb).trans (HF.out.cell k x hx j u hu))
     have zb:b < wr.heap.size:=Nat.lt_of_lt_of_le hb HB.out.size
     have CC:=y36h (HC.out wr HB.out x (List.mem_of_getElem? hx))
     have HX:=y36h hx
     clear hx
     cases hs:P x
     · rw [hs] at CC
       have HY:=y36h (zfq HX.out HS.out hs)
       clear HS
       go_wp2_with (go_at_call 74;refine CC.out.mono ?_;rintro e w' ⟨rfl,hb'⟩)
       go_roundw
       case rel=>exact ⟨k + 1,by omega,by go_num,HY,y36h (HB.out.trans (hb'.mono HB.out.size))⟩
       case measure=>simp [intOf];omega
     · rw [hs] at CC
       have HY:=y36h hs
       go_wp2_with (go_at_call 74;refine CC.out.mono ?_;rintro e w' ⟨rfl,hb'⟩)
       go_ret
       exact ⟨_,rfl,.inl ⟨k,x,HX.out,HY.out,rfl,HS.out⟩,HB.out.trans (hb'.mono HB.out.size)⟩
   · have h:=HS.out
     rw [List.take_of_length_le (by rw [HN.out];omega)] at h
     have HY:=y36h h
     clear h HS
     go_wp2_with fail
     go_ret
     exact ⟨_,rfl,.inr ⟨rfl,HY.out⟩,HB.out⟩
theorem zgt (P:Itm → Bool) (l:List Itm) (v:Value) (bx:Nat) (w:World) (hR:Row 8 ic w l v) (C:∀ w',Below w.heap.size w w' → ∀ x ∈ l,Calls Tryz.prog 74 #[iV x,.pointer (some ⟨bx,0,none⟩)] w' fun e w''=>e = .returned (.bool (P x)) ∧ Below w'.heap.size w' w'') :
   Calls Tryz.prog 77 #[v,.func (Fn.func 74) #[] #[.pointer (some ⟨bx,0,none⟩)]] w fun e w'=>e = .returned (.bool (l.any P)) ∧ Below w.heap.size w w':=by
 have D:=y36h (zix P l v bx w hR C)
 obtain ⟨oa,cap,rfl⟩:=hR.val
 clear hR C
 go_enter Tryz.func77,Tryz.ntmps77
 go_wp2_with (go_at_call 104;refine D.out.mono ?_;rintro e w' ⟨n,rfl,hn,hb⟩)
 go_ret
 have hn:=hn.any
 first | exact ⟨zaa hn,hb⟩ | exact ⟨rfl,hb⟩
theorem ziy (P:Itm → Bool) (l:List Itm) (v:Value) (bx:Nat) (w:World) (hR:Row 8 ic w l v) (C:∀ w',Below w.heap.size w w' → ∀ x ∈ l,Calls Tryz.prog 76 #[iV x,.pointer (some ⟨bx,0,none⟩)] w' fun e w''=>e = .returned (.bool (P x)) ∧ Below w'.heap.size w' w'') :
   Calls Tryz.prog 104 #[v,.func (Fn.func 76) #[] #[.pointer (some ⟨bx,0,none⟩)]] w fun e w'=>∃ n:Int,e = .returned (.int .i64 n) ∧ FstI P l n ∧ Below w.heap.size w w':=by
 obtain ⟨oa,cap,b,o,rfl,hF⟩:=hR
 have h1:=hF.len
 have h2:=hF.max
 unfold maxLen at h2
 have HF:=y36h hF
 have HC:=y36h C
 clear hF C
 generalize hn:l.length = n at *
 have HN:=y36h hn
 clear hn
 go_enter Tryz.func104,Tryz.ntmps104
 go_wp2_with fail
 go_loopw [8] (fun i wr=>znr P l n w i wr) (fun i _=>n - (intOf i).toNat)
 case atStart=>exact ⟨0,Nat.zero_le _,rfl,by simp [Hid],y36h (Below.refl _ _)⟩
 case round =>
   obtain ⟨k,hk,rfl,HS,HB⟩:=hrel
   by_cases hlt:k < n
   · obtain ⟨x,hx⟩:∃ x,l[k]? = some x:=⟨_,List.getElem?_eq_getElem (by rw [HN.out];exact hlt)⟩
     obtain ⟨rfl,hb⟩:=HF.out.at0 (by rw [HN.out];omega)
     obtain ⟨c0,c1,c2,c3,c4,c5,c6,c7⟩:=zav (w:=wr) (fun j u hu=>(HB.out.cell (p:=⟨b,o + k * 8 + j,none⟩) hb).trans (HF.out.cell k x hx j u hu))
     have zb:b < wr.heap.size:=Nat.lt_of_lt_of_le hb HB.out.size
     have CC:=y36h (HC.out wr HB.out x (List.mem_of_getElem? hx))
     have HX:=y36h hx
     clear hx
     cases hs:P x
     · rw [hs] at CC
       have HY:=y36h (zfq HX.out HS.out hs)
       clear HS
       go_wp2_with (go_at_call 76;refine CC.out.mono ?_;rintro e w' ⟨rfl,hb'⟩)
       go_roundw
       case rel=>exact ⟨k + 1,by omega,by go_num,HY,y36h (HB.out.trans (hb'.mono HB.out.size))⟩
       case measure=>simp [intOf];omega
     · rw [hs] at CC
       have HY:=y36h hs
       go_wp2_with (go_at_call 76;refine CC.out.mono ?_;rintro e w' ⟨rfl,hb'⟩)
       go_ret
       exact ⟨_,rfl,.inl ⟨k,x,HX.out,HY.out,rfl,HS.out⟩,HB.out.trans (hb'.mono HB.out.size)⟩
   · have h:=HS.out
     rw [List.take_of_length_le (by rw [HN.out];omega)] at h
     have HY:=y36h h
     clear h HS
     go_wp2_with fail
     go_ret
     exact ⟨_,rfl,.inr ⟨rfl,HY.out⟩,HB.out⟩
theorem zgu (P:Itm → Bool) (l:List Itm) (v:Value) (bx:Nat) (w:World) (hR:Row 8 ic w l v) (C:∀ w',Below w.heap.size w w' → ∀ x ∈ l,Calls Tryz.prog 76 #[iV x,.pointer (some ⟨bx,0,none⟩)] w' fun e w''=>e = .returned (.bool (P x)) ∧ Below w'.heap.size w' w'') :
   Calls Tryz.prog 77 #[v,.func (Fn.func 76) #[] #[.pointer (some ⟨bx,0,none⟩)]] w fun e w'=>e = .returned (.bool (l.any P)) ∧ Below w.heap.size w w':=by
 have D:=y36h (ziy P l v bx w hR C)
 obtain ⟨oa,cap,rfl⟩:=hR.val
 clear hR C
 go_enter Tryz.func77,Tryz.ntmps77
 go_wp2_with (go_at_call 104;refine D.out.mono ?_;rintro e w' ⟨n,rfl,hn,hb⟩)
 go_ret
 have hn:=hn.any
 first | exact ⟨zaa hn,hb⟩ | exact ⟨rfl,hb⟩
theorem zh7 (P:Itm → Bool) (l:List Itm) (v:Value) (bx:Nat) (w:World) (hR:Row 8 ic w l v) (C:∀ w',Below w.heap.size w w' → ∀ x ∈ l,Calls Tryz.prog 82 #[iV x,.pointer (some ⟨bx,0,none⟩)] w' fun e w''=>e = .returned (.bool (P x)) ∧ Below w'.heap.size w' w'') :
   Calls Tryz.prog 104 #[v,.func (Fn.func 82) #[] #[.pointer (some ⟨bx,0,none⟩)]] w fun e w'=>∃ n:Int,e = .returned (.int .i64 n) ∧ FstI P l n ∧ Below w.heap.size w w':=by
 obtain ⟨oa,cap,b,o,rfl,hF⟩:=hR
 have h1:=hF.len
 have h2:=hF.max
 unfold maxLen at h2
 have HF:=y36h hF
 have HC:=y36h C
 clear hF C
 generalize hn:l.length = n at *
 have HN:=y36h hn
 clear hn
 go_enter Tryz.func104,Tryz.ntmps104
 go_wp2_with fail
 go_loopw [8] (fun i wr=>znr P l n w i wr) (fun i _=>n - (intOf i).toNat)
 case atStart=>exact ⟨0,Nat.zero_le _,rfl,by simp [Hid],y36h (Below.refl _ _)⟩
 case round =>
   obtain ⟨k,hk,rfl,HS,HB⟩:=hrel
   by_cases hlt:k < n
   · obtain ⟨x,hx⟩:∃ x,l[k]? = some x:=⟨_,List.getElem?_eq_getElem (by rw [HN.out];exact hlt)⟩
     obtain ⟨rfl,hb⟩:=HF.out.at0 (by rw [HN.out];omega)
     obtain ⟨c0,c1,c2,c3,c4,c5,c6,c7⟩:=zav (w:=wr) (fun j u hu=>(HB.out.cell (p:=⟨b,o + k * 8 + j,none⟩) hb).trans (HF.out.cell k x hx j u hu))
     have zb:b < wr.heap.size:=Nat.lt_of_lt_of_le hb HB.out.size
     have CC:=y36h (HC.out wr HB.out x (List.mem_of_getElem? hx))
     have HX:=y36h hx
     clear hx
     cases hs:P x
     · rw [hs] at CC
       have HY:=y36h (zfq HX.out HS.out hs)
       clear HS
       go_wp2_with (go_at_call 82;refine CC.out.mono ?_;rintro e w' ⟨rfl,hb'⟩)
       go_roundw
       case rel=>exact ⟨k + 1,by omega,by go_num,HY,y36h (HB.out.trans (hb'.mono HB.out.size))⟩
       case measure=>simp [intOf];omega
     · rw [hs] at CC
       have HY:=y36h hs
       go_wp2_with (go_at_call 82;refine CC.out.mono ?_;rintro e w' ⟨rfl,hb'⟩)
       go_ret
       exact ⟨_,rfl,.inl ⟨k,x,HX.out,HY.out,rfl,HS.out⟩,HB.out.trans (hb'.mono HB.out.size)⟩
   · have h:=HS.out
     rw [List.take_of_length_le (by rw [HN.out];omega)] at h
     have HY:=y36h h
     clear h HS
     go_wp2_with fail
     go_ret
     exact ⟨_,rfl,.inr ⟨rfl,HY.out⟩,HB.out⟩
theorem zdn (P:Itm → Bool) (l:List Itm) (v:Value) (bx:Nat) (w:World) (hR:Row 8 ic w l v) (C:∀ w',Below w.heap.size w w' → ∀ x ∈ l,Calls Tryz.prog 82 #[iV x,.pointer (some ⟨bx,0,none⟩)] w' fun e w''=>e = .returned (.bool (P x)) ∧ Below w'.heap.size w' w'') :
   Calls Tryz.prog 77 #[v,.func (Fn.func 82) #[] #[.pointer (some ⟨bx,0,none⟩)]] w fun e w'=>e = .returned (.bool (l.any P)) ∧ Below w.heap.size w w':=by
 have D:=y36h (zh7 P l v bx w hR C)
 obtain ⟨oa,cap,rfl⟩:=hR.val
 clear hR C
 go_enter Tryz.func77,Tryz.ntmps77
 go_wp2_with (go_at_call 104;refine D.out.mono ?_;rintro e w' ⟨n,rfl,hn,hb⟩)
 go_ret
 have hn:=hn.any
 first | exact ⟨zaa hn,hb⟩ | exact ⟨rfl,hb⟩
theorem zkq (P:Itm → Bool) (l:List Itm) (v:Value) (w:World) (hR:Row 8 ic w l v) (C:∀ w',Below w.heap.size w w' → ∀ x ∈ l,Calls Tryz.prog 57 #[iV x] w' fun e w''=>e = .returned (.bool (P x)) ∧ Below w'.heap.size w' w'') :
   Calls Tryz.prog 104 #[v,.func (Fn.func 57) #[] #[]] w fun e w'=>∃ n:Int,e = .returned (.int .i64 n) ∧ FstI P l n ∧ Below w.heap.size w w':=by
 obtain ⟨oa,cap,b,o,rfl,hF⟩:=hR
 have h1:=hF.len
 have h2:=hF.max
 unfold maxLen at h2
 have HF:=y36h hF
 have HC:=y36h C
 clear hF C
 generalize hn:l.length = n at *
 have HN:=y36h hn
 clear hn
 go_enter Tryz.func104,Tryz.ntmps104
 go_wp2_with fail
 go_loopw [8] (fun i wr=>znr P l n w i wr) (fun i _=>n - (intOf i).toNat)
 case atStart=>exact ⟨0,Nat.zero_le _,rfl,by simp [Hid],y36h (Below.refl _ _)⟩
 case round =>
   obtain ⟨k,hk,rfl,HS,HB⟩:=hrel
   by_cases hlt:k < n
   · obtain ⟨x,hx⟩:∃ x,l[k]? = some x:=⟨_,List.getElem?_eq_getElem (by rw [HN.out];exact hlt)⟩
     obtain ⟨rfl,hb⟩:=HF.out.at0 (by rw [HN.out];omega)
     obtain ⟨c0,c1,c2,c3,c4,c5,c6,c7⟩:=zav (w:=wr) (fun j u hu=>(HB.out.cell (p:=⟨b,o + k * 8 + j,none⟩) hb).trans (HF.out.cell k x hx j u hu))
     have zb:b < wr.heap.size:=Nat.lt_of_lt_of_le hb HB.out.size
     have CC:=y36h (HC.out wr HB.out x (List.mem_of_getElem? hx))
     have HX:=y36h hx
     clear hx
     cases hs:P x
     · rw [hs] at CC
       have HY:=y36h (zfq HX.out HS.out hs)
       clear HS
       go_wp2_with (go_at_call 57;refine CC.out.mono ?_;rintro e w' ⟨rfl,hb'⟩)
       go_roundw
       case rel=>exact ⟨k + 1,by omega,by go_num,HY,y36h (HB.out.trans (hb'.mono HB.out.size))⟩
       case measure=>simp [intOf];omega
     · rw [hs] at CC
       have HY:=y36h hs
       go_wp2_with (go_at_call 57;refine CC.out.mono ?_;rintro e w' ⟨rfl,hb'⟩)
       go_ret
       exact ⟨_,rfl,.inl ⟨k,x,HX.out,HY.out,rfl,HS.out⟩,HB.out.trans (hb'.mono HB.out.size)⟩
   · have h:=HS.out
     rw [List.take_of_length_le (by rw [HN.out];omega)] at h
     have HY:=y36h h
     clear h HS
     go_wp2_with fail
     go_ret
     exact ⟨_,rfl,.inr ⟨rfl,HY.out⟩,HB.out⟩
theorem zju (P:Fr → Bool) (l:List Fr) (v:Value) (bx:Nat) (w:World) (hR:FrW w l v) (C:∀ w',Below w.heap.size w w' → ∀ (k:Nat) (f:Fr) (u:Value),l[k]? = some f → TxW w' f.ids u → Calls Tryz.prog 83 #[frV f u,.pointer (some ⟨bx,0,none⟩)] w' fun e w''=>e = .returned (.bool (P f)) ∧ Below w'.heap.size w' w'') :
   Calls Tryz.prog 108 #[v,.func (Fn.func 83) #[] #[.pointer (some ⟨bx,0,none⟩)]] w fun e w'=>∃ n:Int,e = .returned (.int .i64 n) ∧ decide (0 ≤ n) = l.any P ∧ Below w.heap.size w w':=by
 obtain ⟨U,oa,cap,b,o,rfl,hF⟩:=hR
 have h1:=hF.len
 have h2:=hF.max
 unfold maxLen at h2
 have HF:=y36h hF
 have HC:=y36h C
 clear hF C
 generalize hn:l.length = n at *
 have HN:=y36h hn
 clear hn
 go_enter Tryz.func108,Tryz.ntmps108
 go_wp2_with fail
 go_loopw [8] (fun i wr=>zrz P l n w i wr) (fun i _=>n - (intOf i).toNat)
 case atStart=>exact ⟨0,Nat.zero_le _,rfl,by simp [Hid],y36h (Below.refl _ _)⟩
 case round =>
   obtain ⟨k,hk,rfl,HS,HB⟩:=hrel
   by_cases hlt:k < n
   · obtain ⟨f,hf⟩:∃ f,l[k]? = some f:=⟨_,List.getElem?_eq_getElem (by rw [HN.out];exact hlt)⟩
     obtain ⟨rfl,hb⟩:=HF.out.at0 (by rw [HN.out];omega)
     have FL:=HF.out.later HB.out (Nat.le_refl _)
     obtain ⟨c0,c1,c2,c3,c4,c5,c6,c7,c8⟩:=za6 (w:=wr) (fun j u hu=>FL.cell k f hf j u hu)
     have zb:b < wr.heap.size:=Nat.lt_of_lt_of_le hb HB.out.size
     have CC:=y36h (HC.out wr HB.out k f (U k) hf (FL.ids k f hf))
     have HX:=y36h hf
     obtain ⟨ou,cu,hU⟩:=(HF.out.ids k f hf).val
     rw [hU] at c0 CC
     clear FL hf hU
     cases hs:P f
     · rw [hs] at CC
       have HY:=y36h (zhv HX.out HS.out hs)
       clear HS
       go_wp2_with (go_at_call 83;refine CC.out.mono ?_;rintro e w' ⟨rfl,hb'⟩)
       go_roundw
       case rel=>exact ⟨k + 1,by omega,by go_num,HY,y36h (HB.out.trans (hb'.mono HB.out.size))⟩
       case measure=>simp [intOf];omega
     · rw [hs] at CC
       have HY:=y36h (zjk HX.out hs)
       clear HS
       go_wp2_with (go_at_call 83;refine CC.out.mono ?_;rintro e w' ⟨rfl,hb'⟩)
       go_ret
       exact ⟨_,rfl,by rw [HY.out];simp,HB.out.trans (hb'.mono HB.out.size)⟩
   · have h:=HS.out
     rw [List.take_of_length_le (by rw [HN.out];omega)] at h
     have HY:=y36h h
     clear h HS
     go_wp2_with fail
     go_ret
     exact ⟨_,rfl,by rw [HY.out];simp,HB.out⟩
theorem zht (P:Fr → Bool) (l:List Fr) (v:Value) (bx:Nat) (w:World) (hR:FrW w l v) (C:∀ w',Below w.heap.size w w' → ∀ (k:Nat) (f:Fr) (u:Value),l[k]? = some f → TxW w' f.ids u → Calls Tryz.prog 83 #[frV f u,.pointer (some ⟨bx,0,none⟩)] w' fun e w''=>e = .returned (.bool (P f)) ∧ Below w'.heap.size w' w'') :
   Calls Tryz.prog 61 #[v,.func (Fn.func 83) #[] #[.pointer (some ⟨bx,0,none⟩)]] w fun e w'=>e = .returned (.bool (l.any P)) ∧ Below w.heap.size w w':=by
 have D:=y36h (zju P l v bx w hR C)
 obtain ⟨oa,cap,rfl⟩:=hR.val
 clear hR C
 go_enter Tryz.func61,Tryz.ntmps61
 go_wp2_with (go_at_call 108;refine D.out.mono ?_;rintro e w' ⟨n,rfl,hn,hb⟩)
 go_ret
 first | exact ⟨zaa hn,hb⟩ | exact ⟨rfl,hb⟩
theorem zyk {w:World} {b:Nat} {id:ByteArray} (h:Own w b #[.string id] 9) (hid:id.size ≤ maxLen):TxW w [id] (.slice (some ⟨b,0,none⟩) 1 1) :=
 ⟨some ⟨b,0,none⟩,1,b,0,rfl,by simp,by unfold maxLen;omega,fun _=>⟨rfl,h.lt⟩,fun k s hk=>by
   have:k = 0:=by have:=posA hk;simp at this;omega
   subst this
   simp at hk;subst hk
   rw [h.cell];rfl,fun s hs=>by simp at hs;subst hs;exact hid⟩
theorem z19 {w:World} {b:Nat} {f:Fr} {u:Value} (h:Own w b #[u,.int .i64 (f.v 0),.int .i64 (f.v 1),.int .i64 (f.v 2),.int .i64 (f.v 3),.int .i64 (f.v 4),.int .i64 (f.v 5),.int .i64 (f.v 6),.int .i64 (f.v 7)] 105) (hT:TxW w f.ids u):FrAt w [f] (fun _=>u) (some ⟨b,0,none⟩) 1 b 0 :=
 ⟨by simp,by unfold maxLen;omega,fun _=>⟨rfl,h.lt⟩,fun k g hk j z hz=>by
   have:k = 0:=by have:=posA hk;simp at this;omega
   subst this
   simp at hk;subst hk
   rw [h.cell]
   have hj:j < 9:=(List.getElem?_eq_some_iff.1 hz).1
   rw [← hz]
   obtain rfl | rfl | rfl | rfl | rfl | rfl | rfl | rfl | rfl:j = 0 ∨ j = 1 ∨ j = 2 ∨ j = 3 ∨ j = 4 ∨ j = 5 ∨ j = 6 ∨ j = 7 ∨ j = 8:=by omega
   all_goals rfl,fun k g hk=>by
   have:k = 0:=by have:=posA hk;simp at this;omega
   subst this
   simp at hk;subst hk
   exact hT⟩
theorem FrOwn.set9 {w:World} {B b:Nat} {l:List Fr} {v:Value} (h:FrOwn w B l v) (hb:b < B) (c0 c1 c2 c3 c4 c5 c6 c7 c8:Value):FrOwn (st9 w b c0 c1 c2 c3 c4 c5 c6 c7 c8) B l v :=
 ((((((((h.setLow (a:=⟨b,0,none⟩) hb c0).setLow (a:=⟨b,1,none⟩) hb c1).setLow (a:=⟨b,2,none⟩) hb c2).setLow (a:=⟨b,3,none⟩) hb c3).setLow (a:=⟨b,4,none⟩) hb c4).setLow (a:=⟨b,5,none⟩) hb c5).setLow (a:=⟨b,6,none⟩) hb c6).setLow (a:=⟨b,7,none⟩) hb c7).setLow (a:=⟨b,8,none⟩) hb c8
theorem zfr (K:Kn) (id:ByteArray) (r c:Int) (v:Value) (w:World) (hR:FrW w K.l v) (hid:id.size ≤ maxLen) (hl1:(zag (zap K id r c).l).length ≤ 10000) (hl2:K.l.length ≤ 10000) :
   Calls Tryz.prog 99 #[knV K.star v,.string id,.agg #[.int .i64 r,.int .i64 c]] w fun e w'=>∃ v',e = .returned (knV K.star v') ∧ FrOwn w' w.heap.size (zah (zap K id r c)).l v' ∧ Below w.heap.size w w':=by
 obtain ⟨U,ov,cv,b,o,rfl,hF⟩:=hR
 unfold zap at *
 obtain ⟨A,l⟩:=K
 simp only at *
 have CW:=fun w'=>y36h (show Calls Tryz.prog 145 #[.agg #[.int .i64 0,.int .i64 0,.int .i64 0,.int .i64 0,.int .i64 0,.int .i64 0,.int .i64 0,.int .i64 0],.agg #[.int .i64 r,.int .i64 c]] w' (fun e w''=>e = .returned (vecV (zaw zad r c)) ∧ Below w'.heap.size w' w'') from znp zad r c w')
 generalize zaw zad r c = V at *
 have HF:=y36h hF
 have HL:=y36h hl1
 have hl3:l.length + [(⟨[id],V⟩:Fr)].length ≤ 20000:=by simp;omega
 have CP:=fun u w' h=>y36h (zff ⟨A,l ++ [⟨[id],V⟩]⟩ u w' h HL.out)
 generalize (zah ⟨A,l ++ [⟨[id],V⟩]⟩).l = res at *
 have O1:=y36h ((((Own.newAt w (knA A (.slice ov l.length cv)) 31 (b:=w.heap.size) (by first | rfl | simp)).alloc (.cells #[.int .i64 r,.int .i64 c] 67)).alloc (.cells (knA zad (.slice none 0 0)) 31)).alloc (.cells #[.string id] 9))
 have O2:=y36h (((Own.newAt (w.alloc (.cells (knA A (.slice ov l.length cv)) 31)) #[.int .i64 r,.int .i64 c] 67 (b:=w.heap.size + 1) (by first | rfl | simp)).alloc (.cells (knA zad (.slice none 0 0)) 31)).alloc (.cells #[.string id] 9))
 have O3:=y36h ((Own.newAt ((w.alloc (.cells (knA A (.slice ov l.length cv)) 31)).alloc (.cells #[.int .i64 r,.int .i64 c] 67)) (knA zad (.slice none 0 0)) 31 (b:=w.heap.size + 1 + 1) (by first | rfl | simp)).alloc (.cells #[.string id] 9))
 have O4:=y36h (Own.newAt (((w.alloc (.cells (knA A (.slice ov l.length cv)) 31)).alloc (.cells #[.int .i64 r,.int .i64 c] 67)).alloc (.cells (knA zad (.slice none 0 0)) 31)) #[.string id] 9 (b:=w.heap.size + 1 + 1 + 1) (by first | rfl | simp))
 have BE:=y36h (((((Below.refl w.heap.size w).alloc (by first | exact Nat.le_refl _ | (simp;omega) | simp) (.cells (knA A (.slice ov l.length cv)) 31)).alloc (by first | exact Nat.le_refl _ | (simp;omega) | simp) (.cells #[.int .i64 r,.int .i64 c] 67)).alloc (by first | exact Nat.le_refl _ | (simp;omega) | simp) (.cells (knA zad (.slice none 0 0)) 31)).alloc (by first | exact Nat.le_refl _ | (simp;omega) | simp) (.cells #[.string id] 9))
 clear hF hl1
 have l2:=O2.out.cell
 have z2:=O2.out.lt
 go_enter Tryz.func99,Tryz.ntmps99
 go_wp2_with (first
   | (go_at_call 145;refine (CW _).out.mono ?_;rintro e w5 ⟨rfl,hb5⟩;clear l2 z2;replace O1:=y36h (O1.out.later hb5);replace O3:=y36h (O3.out.later hb5);replace O4:=y36h (O4.out.later hb5);replace BE:=y36h (BE.out.trans (hb5.mono BE.out.size));clear hb5;have l1:=O1.out.cell;have z1:=O1.out.lt;have P2:=y36h ((Own.newAt (w5.alloc (.cells #[.slice (some ⟨w.heap.size + 1 + 1 + 1,0,none⟩) 1 1,.int .i64 (V 0),.int .i64 (V 1),.int .i64 (V 2),.int .i64 (V 3),.int .i64 (V 4),.int .i64 (V 5),.int .i64 (V 6),.int .i64 (V 7)] 105)) #[.slice (some ⟨w.heap.size + 1 + 1 + 1,0,none⟩) 1 1,.int .i64 (V 0),.int .i64 (V 1),.int .i64 (V 2),.int .i64 (V 3),.int .i64 (V 4),.int .i64 (V 5),.int .i64 (V 6),.int .i64 (V 7)] 105 (b:=w5.heap.size + 1) (by first | rfl | simp)).alloc (.cells #[.slice ov l.length cv,.slice (some ⟨w5.heap.size + 1,0,none⟩) 1 1] 29));have P3:=y36h (Own.newAt ((w5.alloc (.cells #[.slice (some ⟨w.heap.size + 1 + 1 + 1,0,none⟩) 1 1,.int .i64 (V 0),.int .i64 (V 1),.int .i64 (V 2),.int .i64 (V 3),.int .i64 (V 4),.int .i64 (V 5),.int .i64 (V 6),.int .i64 (V 7)] 105)).alloc (.cells #[.slice (some ⟨w.heap.size + 1 + 1 + 1,0,none⟩) 1 1,.int .i64 (V 0),.int .i64 (V 1),.int .i64 (V 2),.int .i64 (V 3),.int .i64 (V 4),.int .i64 (V 5),.int .i64 (V 6),.int .i64 (V 7)] 105)) #[.slice ov l.length cv,.slice (some ⟨w5.heap.size + 1,0,none⟩) 1 1] 29 (b:=w5.heap.size + 1 + 1) (by first | rfl | simp));have PB:=y36h ((((Below.refl w5.heap.size w5).alloc (by first | exact Nat.le_refl _ | (simp;omega) | simp) (.cells #[.slice (some ⟨w.heap.size + 1 + 1 + 1,0,none⟩) 1 1,.int .i64 (V 0),.int .i64 (V 1),.int .i64 (V 2),.int .i64 (V 3),.int .i64 (V 4),.int .i64 (V 5),.int .i64 (V 6),.int .i64 (V 7)] 105)).alloc (by first | exact Nat.le_refl _ | (simp;omega) | simp) (.cells #[.slice (some ⟨w.heap.size + 1 + 1 + 1,0,none⟩) 1 1,.int .i64 (V 0),.int .i64 (V 1),.int .i64 (V 2),.int .i64 (V 3),.int .i64 (V 4),.int .i64 (V 5),.int .i64 (V 6),.int .i64 (V 7)] 105)).alloc (by first | exact Nat.le_refl _ | (simp;omega) | simp) (.cells #[.slice ov l.length cv,.slice (some ⟨w5.heap.size + 1,0,none⟩) 1 1] 29));have TX:=y36h (zyk (O4.out.later PB.out) hid);have CC:=y36h (zr9 l [⟨[id],V⟩] U (fun _=>.slice (some ⟨w.heap.size + 1 + 1 + 1,0,none⟩) 1 1) ov (some ⟨w5.heap.size + 1,0,none⟩) cv 1 b (w5.heap.size + 1) o 0 (w5.heap.size + 1 + 1) _ P3.out.lt (P3.out.cell 0) (P3.out.cell 1) (HF.out.later (BE.out.trans (PB.out.mono BE.out.size)) (Nat.le_refl _)) (z19 (f:=⟨[id],V⟩) P2.out TX.out) hl3))
   | (go_at_call 146;refine CC.out.mono ?_;rintro e w7 ⟨u,rfl,hrow,hb7⟩;obtain ⟨ou,cu,gu,rfl,_,_,_⟩:=zan hrow;clear l1 z1;have HB57:=y36h (PB.out.trans (hb7.mono PB.out.size));replace O1:=y36h (O1.out.later HB57.out);replace O3:=y36h (O3.out.later HB57.out);replace O4:=y36h (O4.out.later HB57.out);have BE7:=y36h (BE.out.trans (HB57.out.mono BE.out.size));have HROW:=y36h hrow;clear hrow hb7;have l1:=O1.out.cell;have f1:=O1.out.free;have z1:=O1.out.lt;have BS:=y36h (BE7.out.setCell (p:=⟨w.heap.size,8,none⟩) (Nat.le_refl _) (.slice ou (l ++ [(⟨[id],V⟩:Fr)]).length cu));have HFR:=y36h (z0d (ownsRow_setCell_below HROW.out (a:=⟨w.heap.size,8,none⟩) (by have:=BE.out.size;simp;omega) (.slice ou (l ++ [(⟨[id],V⟩:Fr)]).length cu)) (fun k f hf=>(HF.out.ids k f hf).later BS.out (Nat.le_refl _)) (fun k f hf=>by (have:k = 0:=by have:=posA hf;simp at this;omega);subst this;simp at hf;subst hf;exact zyk (O4.out.setFar _ _ (by show w.heap.size + 1 + 1 + 1 ≠ w.heap.size;omega)) hid));have HP:=CP _ _ HFR.out;have O3S:=y36h (O3.out.setFar ⟨w.heap.size,8,none⟩ (.slice ou (l ++ [(⟨[id],V⟩:Fr)]).length cu) (by show w.heap.size + 1 + 1 ≠ w.heap.size;omega));clear HFR CC PB P2 P3 TX O4;generalize (l ++ [(⟨[id],V⟩:Fr)]).length = n9 at *)
   | (go_at_call 81;refine HP.out.mono ?_;rintro e w8 ⟨v8,rfl,hfr8,hb8⟩;obtain ⟨o8,c8,rfl⟩:=hfr8.fr.val;clear l1 f1 z1;have O38:=y36h (O3S.out.later hb8);have BE8:=y36h (BS.out.trans (hb8.mono BS.out.size));have l3:=O38.out.cell;have f3:=O38.out.free;have z3:=O38.out.lt;have z38:=y36h (O3S.out.lt);have z37:=y36h BS.out.size;have HFF:=y36h hfr8;clear hb8 hfr8)
   | fail)
 clear l3 f3 z3
 have key:=And.intro (zb1 O38.out (.int .i64 (A 0)) (.int .i64 (A 1)) (.int .i64 (A 2)) (.int .i64 (A 3)) (.int .i64 (A 4)) (.int .i64 (A 5)) (.int .i64 (A 6)) (.int .i64 (A 7)) (.slice o8 res.length c8)) (And.intro (zbj (b:=w.heap.size + 1 + 1) BE8.out (by omega) (.int .i64 (A 0)) (.int .i64 (A 1)) (.int .i64 (A 2)) (.int .i64 (A 3)) (.int .i64 (A 4)) (.int .i64 (A 5)) (.int .i64 (A 6)) (.int .i64 (A 7)) (.slice o8 res.length c8)) (HFF.out.set9 z38.out (.int .i64 (A 0)) (.int .i64 (A 1)) (.int .i64 (A 2)) (.int .i64 (A 3)) (.int .i64 (A 4)) (.int .i64 (A 5)) (.int .i64 (A 6)) (.int .i64 (A 7)) (.slice o8 res.length c8)))
 clear O38 BE8 HFF z38
 unfold st9 st8 at key
 revert key
 generalize World.setCell (World.setCell (World.setCell (World.setCell (World.setCell (World.setCell (World.setCell (World.setCell (World.setCell _ _ _) _ _) _ _) _ _) _ _) _ _) _ _) _ _) _ _ = WW
 rintro ⟨of,bf,ff⟩
 have lf:=of.cell
 refine bodyPost_ret (v:=knV A (.slice o8 res.length c8)) (by simp [results,Tryz.results99,go_sem,lf]) rfl ⟨_,rfl,ff.mono z37.out,bf⟩
theorem zc6 (K:Kn) (id:ByteArray) (r c:Int) (v:Value) (w:World) (hR:FrW w K.l v) (hid:id.size ≤ maxLen) (hl1:(zag (zap K id r c).l).length ≤ 10000) (hl2:K.l.length ≤ 10000) :
   Calls Tryz.prog 99 #[knV K.star v,.string id,.agg #[.int .i64 r,.int .i64 c]] w fun e w'=>∃ v',e = .returned (knV K.star v') ∧ FrFresh w' w.heap.size (zah (zap K id r c)).l v' ∧ Below w.heap.size w w' :=
 (zfr K id r c v w hR hid hl1 hl2).mono fun _ _ ⟨v',he,hf,hb⟩=>⟨v',he,hf.fresh,hb⟩
theorem zzo (l:List Fr):(!(l.any oddB)) = l.all (zc8 zay):=by
 rw [List.not_any_eq_all_not]
 congr 1
 funext f
 unfold oddB zc8
 rw [Bool.not_or,Bool.not_not,List.not_any_eq_all_not]
 congr 1
 congr 1
 funext s
 rw [Bool.not_not]
theorem znb (nm:ByteArray → Bool) (hnm:nm = zay) (a:Kn) (v:Value) (w:World) (hR:FrW w a.l v) (hl1:(zag a.l).length ≤ 10000) :
   Calls Tryz.prog 38 #[knV a.star v] w fun e w'=>e = .returned (.bool (mayK nm a)) ∧ Below w.heap.size w w':=by
 subst hnm
 obtain ⟨ov,cv,rfl⟩:=hR.val
 have OA:=y36h (Own.newAt w (knA a.star (.slice ov a.l.length cv)) 31 (b:=w.heap.size) (by first | rfl | simp)).has
 have BEL:=y36h ((Below.refl w.heap.size w).alloc (by first | exact Nat.le_refl _ | (simp;omega) | simp) (.cells (knA a.star (.slice ov a.l.length cv)) 31))
 have LA:=y36h (hR.later BEL.out (Nat.le_refl _))
 have PA:=fun w' h=>y36h (zdu a (.slice ov a.l.length cv) w' h hl1)
 have EQ:=fun va vb w' h h'=>y36h (show Calls Tryz.prog 80 #[knV a.star va,knV a.star vb] w' (fun e w''=>e = .returned (.bool (zbp a (zah a))) ∧ Below w'.heap.size w' w'') from zo4 a (zah a) va vb w' h h')
 have MV:=fun w'=>y36h (zin a.star w')
 have CD:=fun w' h=>y36h (zkg oddB a.l (.slice ov a.l.length cv) w' h fun w' hb k f u hf hu=>zu2 f u w' hu)
 have e:mayK zay a = ((mayV a.star && !(a.l.any oddB)) && zbp a (zah a)):=by
   unfold mayK
   rw [zzo]
   cases mayV a.star <;> cases zbp a (zah a) <;> cases a.l.all (zc8 zay) <;> rfl
 rw [e]
 clear e hR hl1
 generalize zbp a (zah a) = al at *
 generalize (zah a).l = ra at *
 generalize a.l.length = len at *
 generalize a.l.any oddB = od at *
 cases hm:mayV a.star
 · rw [hm] at MV
   go_enter Tryz.func38,Tryz.ntmps38
   go_wp2_with fail
   replace OA:=y36h (OA.out.drew)
   replace BEL:=y36h (BEL.out.drew)
   have l1:=OA.out.cell
   have z1:=OA.out.lt
   first | (go_region_law (first
       | (go_simp;go_at_call 78;refine (MV _).out.mono ?_;rintro e wa ⟨rfl,hb⟩;have BELa:=y36h (BEL.out.trans (hb.mono BEL.out.size));clear hb)
       | fail)) | fail
   all_goals
     go_wp2_with fail
     go_ret
     exact ⟨rfl,BELa.out⟩
 · rw [hm] at MV
   cases hod:od
   · subst hod
     go_enter Tryz.func38,Tryz.ntmps38
     go_wp2_with fail
     replace OA:=y36h (OA.out.drew)
     replace LA:=y36h (LA.out.later (Below.refl _ _).drew (Nat.le_refl _))
     replace BEL:=y36h (BEL.out.drew)
     first | (go_region_held3 (fun w'=>∀ o,w'.cell? ⟨w.heap.size,o,none⟩ = (knA a.star (.slice ov len cv))[o]?) (exact OA.out.cell) (first
         | (go_simp;go_at_call 78;refine (MV _).out.mono ?_;rintro e wa ⟨rfl,hb⟩;replace OA:=y36h (OA.out.below hb OA.out.lt);replace LA:=y36h (LA.out.later hb (Nat.le_refl _));replace BEL:=y36h (BEL.out.trans (hb.mono BEL.out.size));clear hb)
         | (go_simp;go_at_call 61;refine (CD _ LA.out).out.mono ?_;rintro e wb ⟨rfl,hb⟩;replace OA:=y36h (OA.out.below hb OA.out.lt);replace LA:=y36h (LA.out.later hb (Nat.le_refl _));replace BEL:=y36h (BEL.out.trans (hb.mono BEL.out.size));clear hb)
         | (go_simp;go_at_call 81;refine (PA _ LA.out).out.mono ?_;rintro e wc ⟨va,rfl,hfa,hb⟩;obtain ⟨oa,ca,rfl⟩:=hfa.fr.val;have FA:=y36h hfa.fr;replace OA:=y36h (OA.out.below hb OA.out.lt);replace LA:=y36h (LA.out.later hb (Nat.le_refl _));replace BEL:=y36h (BEL.out.trans (hb.mono BEL.out.size));clear hb hfa)
         | (go_simp;go_at_call 80;refine (EQ _ _ _ LA.out FA.out).out.mono ?_;rintro e wd ⟨rfl,hb⟩;replace OA:=y36h (OA.out.below hb OA.out.lt);replace BEL:=y36h (BEL.out.trans (hb.mono BEL.out.size));clear hb)
         | fail)) | fail
     all_goals
       go_wp2_with fail
       go_ret
       exact ⟨rfl,BEL.out⟩
   · subst hod
     go_enter Tryz.func38,Tryz.ntmps38
     go_wp2_with fail
     replace OA:=y36h (OA.out.drew)
     replace LA:=y36h (LA.out.later (Below.refl _ _).drew (Nat.le_refl _))
     replace BEL:=y36h (BEL.out.drew)
     have l1:=OA.out.cell
     have z1:=OA.out.lt
     first | (go_region_law (first
         | (go_simp;go_at_call 78;refine (MV _).out.mono ?_;rintro e wa ⟨rfl,hb⟩;have OAa:=y36h (OA.out.below hb OA.out.lt);have LAa:=y36h (LA.out.later hb (Nat.le_refl _));have BELa:=y36h (BEL.out.trans (hb.mono BEL.out.size));have la:=OAa.out.cell;have za:=OAa.out.lt;clear hb)
         | (go_simp;go_at_call 61;refine (CD _ LAa.out).out.mono ?_;rintro e wb ⟨rfl,hb⟩;have BELb:=y36h (BELa.out.trans (hb.mono BELa.out.size));clear hb)
         | fail)) | fail
     all_goals
       go_wp2_with fail
       go_ret
       exact ⟨rfl,BELb.out⟩
def zgi (s:St):Bool:=(decide (s.store.length + s.out.length ≤ 40) && (zba s.store && zba s.out)) && (!(s.store.any (zd1 s)) && !(s.out.any (hasT s.f)))
def zgf (s:St) (k:Nat):Bool:=(decide (s.k.star k ≤ s.count) && !(s.k.l.any (zei s k))) && (!(s.store.any (zbw s)) && !(s.out.any (zbw s)))
def zls (s:St):Bool:=((((inB s.r 1 8 && numS s) && Pr.mayB s.f) && zgi s) && mayK zay s.k) && zgf s (s.r - 1).toNat
theorem zsr (s:St):zls s = mayS s:=by
 rw [Bool.eq_iff_iff,mayS_iff]
 unfold zls zgi zgf numS
 simp only [Bool.and_eq_true,inB_iff,decide_eq_true_eq,Bool.not_eq_true',List.any_eq_false]
 constructor
 · rintro ⟨⟨⟨⟨⟨hr,hc,ht,he⟩,hf⟩,⟨hn,hs,ho⟩,hst,hin⟩,hk⟩,⟨hstar,hah⟩,hs2,ho2⟩
   refine ⟨hf,hs,ho,hk,hr,hn,hc,ht,he,fun i hi j hj e=>?_,fun i hi=>?_,fun i hi=>?_,?_⟩
   · have:=hst j hj
     unfold zd1 at this
     rw [get_is.2 ⟨i,hi,e.symm⟩] at this
     simp at this
   · have h1:=hst i hi
     have h2:=hs2 i hi
     unfold zd1 at h1
     unfold zbw at h2
     simp only [Bool.or_eq_true,Bool.not_eq_true',decide_eq_true_eq,not_or,Bool.not_eq_false] at h1 h2
     exact ⟨h1.2,h2.2,by omega⟩
   · have h1:=hin i hi
     have h2:=ho2 i hi
     unfold zbw at h2
     simp only [Bool.or_eq_true,Bool.not_eq_true',decide_eq_true_eq,not_or,Bool.not_eq_false] at h2
     exact ⟨by simpa using h1,h2.2,by omega⟩
   · rw [beyS_iff]
     refine ⟨zd3 hc.1 fun _=>hstar,fun f hf=>zd3 hc.1 fun _=>?_⟩
     have:=hah f hf
     unfold zei at this
     simp only [decide_eq_true_eq] at this
     omega
 · intro h
   have hb:=beyS_iff.1 h.b
   refine ⟨⟨⟨⟨⟨h.r,h.c,h.t,h.e⟩,h.f⟩,⟨h.n,h.st,h.ou⟩,fun i hi=>?_,fun i hi=>?_⟩,h.k⟩,⟨zke hb.1 h.r,fun f hf=>?_⟩,fun i hi=>?_,fun i hi=>?_⟩
   · have h1:=(h.si i hi).has
     have h2:(getI s.out i.id).2 = false:=by
       cases q:(getI s.out i.id).2 with
       | false=>rfl
       | true=>obtain ⟨j,hj,e⟩:=get_is.1 q;exact absurd e.symm (h.tw j hj i hi)
     unfold zd1;rw [h1,h2];simp
   · rw [(h.so i hi).has];simp
   · have:=zke (hb.2 f hf) h.r
     unfold zei;rw [decide_eq_true_eq];omega
   · have:=h.si i hi
     unfold zbw;rw [this.knows];have:=this.stamp;simp;omega
   · have:=h.so i hi
     unfold zbw;rw [this.knows];have:=this.stamp;simp;omega
theorem zne (s:St) (fv sv ov kv:Value) (w:World) :
   Calls Tryz.prog 35 #[stV s fv sv ov kv] w fun e w'=>e = .returned (.bool (inB s.r 1 8 && numS s)) ∧ Below w.heap.size w w':=by
 have OA:=y36h (Own.new w (stA s fv sv ov kv) 43)
 have BE:=y36h ((Below.refl w.heap.size w).alloc (Nat.le_refl _) (.cells (stA s fv sv ov kv) 43))
 have W1:=fun w'=>y36h (zcj s.r 1 8 w')
 have W2:=fun w'=>y36h (zcj s.count 0 1000 w')
 have W3:=fun w'=>y36h (zcj s.clock 0 1000000 w')
 have W4:=fun w'=>y36h (zcj s.epoch 0 1000000 w')
 have e:(inB s.r 1 8 && numS s) = (inB s.r 1 8 && (inB s.count 0 1000 && (inB s.clock 0 1000000 && inB s.epoch 0 1000000))):=rfl
 rw [e]
 clear e
 have l0:=OA.out.cell
 have z0:=OA.out.lt
 generalize inB s.r 1 8 = b1 at *
 generalize inB s.count 0 1000 = b2 at *
 generalize inB s.clock 0 1000000 = b3 at *
 generalize inB s.epoch 0 1000000 = b4 at *
 cases b1
 · go_enter Tryz.func35,Tryz.ntmps35
   go_wp2_with fail
   refine (W1 _).out.mono ?_
   rintro e w' ⟨rfl,rfl⟩
   go_wp2_with fail
   go_ret
   exact ⟨rfl,BE.out⟩
 · cases b2
   · go_enter Tryz.func35,Tryz.ntmps35
     go_wp2_with fail
     refine (W1 _).out.mono ?_
     rintro e w' ⟨rfl,rfl⟩
     go_wp2_with fail
     refine (W2 _).out.mono ?_
     rintro e w' ⟨rfl,rfl⟩
     go_wp2_with fail
     go_ret
     exact ⟨rfl,BE.out⟩
   · cases b3
     · go_enter Tryz.func35,Tryz.ntmps35
       go_wp2_with fail
       refine (W1 _).out.mono ?_
       rintro e w' ⟨rfl,rfl⟩
       go_wp2_with fail
       refine (W2 _).out.mono ?_
       rintro e w' ⟨rfl,rfl⟩
       go_wp2_with fail
       refine (W3 _).out.mono ?_
       rintro e w' ⟨rfl,rfl⟩
       go_wp2_with fail
       go_ret
       exact ⟨rfl,BE.out⟩
     · go_enter Tryz.func35,Tryz.ntmps35
       go_wp2_with fail
       refine (W1 _).out.mono ?_
       rintro e w' ⟨rfl,rfl⟩
       go_wp2_with fail
       refine (W2 _).out.mono ?_
       rintro e w' ⟨rfl,rfl⟩
       go_wp2_with fail
       refine (W3 _).out.mono ?_
       rintro e w' ⟨rfl,rfl⟩
       go_wp2_with fail
       refine (W4 _).out.mono ?_
       rintro e w' ⟨rfl,rfl⟩
       go_wp2_with fail
       go_ret
       exact ⟨rfl,BE.out⟩
theorem zpi (s:St) (fv sv ov kv:Value) (w:World) (hS:StW w s fv sv ov kv) (h1:s.store.length ≤ 1000) (h2:s.out.length ≤ 1000) :
   Calls Tryz.prog 37 #[stV s fv sv ov kv] w fun e w'=>e = .returned (.bool (zgi s)) ∧ Below w.heap.size w w':=by
 obtain ⟨of_,cf,rfl⟩:=zal hS.lf
 obtain ⟨os,cs,rfl⟩:=hS.ls.val
 obtain ⟨oo,co,rfl⟩:=hS.lo.val
 obtain ⟨ok,ck,rfl⟩:=hS.lk.val
 have HOK1:=y36h hS.ls.oks
 have HOK2:=y36h hS.lo.oks
 have OS:StO (w.alloc (.cells (stA s (.slice of_ s.f.kids.length cf) (.slice os s.store.length cs) (.slice oo s.out.length co) (.slice ok s.k.l.length ck)) 43)) s (.slice of_ s.f.kids.length cf) (.slice os s.store.length cs) (.slice oo s.out.length co) (.slice ok s.k.l.length ck) w.heap.size:=⟨Own.new w _ _,hS.alloc _⟩
 have OS:=y36h OS
 have BE:=y36h ((Below.refl w.heap.size w).alloc (Nat.le_refl _) (.cells (stA s (.slice of_ s.f.kids.length cf) (.slice os s.store.length cs) (.slice oo s.out.length co) (.slice ok s.k.l.length ck)) 43))
 have M1:=fun w' h=>y36h (zhi s.store (.slice os s.store.length cs) w' h h1)
 have M2:=fun w' h=>y36h (zhi s.out (.slice oo s.out.length co) w' h h2)
 have CA:=fun w' (h:StO w' s (.slice of_ s.f.kids.length cf) (.slice os s.store.length cs) (.slice oo s.out.length co) (.slice ok s.k.l.length ck) w.heap.size) (hr:zao s.out)=>y36h (zgt (zd1 s) s.store (.slice os s.store.length cs) w.heap.size w' h.w.ls (fun w'' hb x hx=>znz s _ _ _ _ w.heap.size x w'' (h.later hb) hr h2 (HOK1.out x hx).1))
 have CI:=fun w' (h:StO w' s (.slice of_ s.f.kids.length cf) (.slice os s.store.length cs) (.slice oo s.out.length co) (.slice ok s.k.l.length ck) w.heap.size)=>y36h (zgu (hasT s.f) s.out (.slice oo s.out.length co) w.heap.size w' h.w.lo (fun w'' hb x hx=>zo0 s _ _ _ _ w.heap.size x w'' (h.later hb) (HOK2.out x hx).1))
 have e:zgi s = ((decide (s.store.length + s.out.length ≤ 40) && (zba s.store && zba s.out)) && (!(s.store.any (zd1 s)) && !(s.out.any (hasT s.f)))):=rfl
 rw [e]
 have hr:zba s.out = true → zao s.out:=fun h=>(mayLB_iff.1 h).2
 have HR:=y36h hr
 clear hS e hr
 have l0:=OS.out.o.cell
 have z0:=OS.out.o.lt
 generalize hA:s.store.any (zd1 s) = bA at *
 generalize hB:s.out.any (hasT s.f) = bB at *
 generalize hC:zba s.store = bC at *
 generalize hD:zba s.out = bD at *
 clear hA hB hC hD
 by_cases hn:s.store.length + s.out.length ≤ 40
 · have g1:decide (40 < (s.store.length:Int) + (s.out.length:Int)) = false:=decide_eq_false (by omega)
   have g2:decide (s.store.length + s.out.length ≤ 40) = true:=decide_eq_true hn
   rw [g2]
   clear g2
   have M1:=M1 _ OS.out.w.ls
   generalize s.store.length = n1 at *
   generalize s.out.length = n2 at *
   cases bC
   · go_enter Tryz.func37,Tryz.ntmps37
     go_wp2_with fail
     refine M1.out.mono ?_
     rintro e w1 ⟨rfl,hb⟩
     clear l0 z0
     replace BE:=y36h (BE.out.trans (hb.mono BE.out.size))
     replace OS:=y36h (OS.out.later hb)
     clear hb
     have l0:=OS.out.o.cell
     have z0:=OS.out.o.lt
     go_wp2_with fail
     go_ret
     exact ⟨zaa (by simp),BE.out⟩
   · cases bD
     · go_enter Tryz.func37,Tryz.ntmps37
       go_wp2_with fail
       refine M1.out.mono ?_
       rintro e w1 ⟨rfl,hb⟩
       clear l0 z0
       replace BE:=y36h (BE.out.trans (hb.mono BE.out.size))
       replace OS:=y36h (OS.out.later hb)
       clear hb
       have l0:=OS.out.o.cell
       have z0:=OS.out.o.lt
       go_wp2_with fail
       refine (M2 _ OS.out.w.lo).out.mono ?_
       rintro e w2 ⟨rfl,hb⟩
       clear l0 z0
       replace BE:=y36h (BE.out.trans (hb.mono BE.out.size))
       replace OS:=y36h (OS.out.later hb)
       clear hb
       have l0:=OS.out.o.cell
       have z0:=OS.out.o.lt
       go_wp2_with fail
       go_ret
       exact ⟨zaa (by simp),BE.out⟩
     · have HR2:=y36h (HR.out rfl)
       clear HR
       cases bA
       · go_enter Tryz.func37,Tryz.ntmps37
         go_wp2_with fail
         refine M1.out.mono ?_
         rintro e w1 ⟨rfl,hb⟩
         clear l0 z0
         replace BE:=y36h (BE.out.trans (hb.mono BE.out.size))
         replace OS:=y36h (OS.out.later hb)
         clear hb
         have l0:=OS.out.o.cell
         have z0:=OS.out.o.lt
         go_wp2_with fail
         refine (M2 _ OS.out.w.lo).out.mono ?_
         rintro e w2 ⟨rfl,hb⟩
         clear l0 z0
         replace BE:=y36h (BE.out.trans (hb.mono BE.out.size))
         replace OS:=y36h (OS.out.later hb)
         clear hb
         have l0:=OS.out.o.cell
         have z0:=OS.out.o.lt
         go_wp2_with fail
         refine (CA _ OS.out HR2.out).out.mono ?_
         rintro e w3 ⟨rfl,hb⟩
         clear l0 z0
         replace BE:=y36h (BE.out.trans (hb.mono BE.out.size))
         replace OS:=y36h (OS.out.later hb)
         clear hb
         have l0:=OS.out.o.cell
         have z0:=OS.out.o.lt
         go_wp2_with fail
         refine (CI _ OS.out).out.mono ?_
         rintro e w4 ⟨rfl,hb⟩
         clear l0 z0
         replace BE:=y36h (BE.out.trans (hb.mono BE.out.size))
         replace OS:=y36h (OS.out.later hb)
         clear hb
         have l0:=OS.out.o.cell
         have z0:=OS.out.o.lt
         go_wp2_with fail
         go_ret
         exact ⟨zaa (by simp),BE.out⟩
       · go_enter Tryz.func37,Tryz.ntmps37
         go_wp2_with fail
         refine M1.out.mono ?_
         rintro e w1 ⟨rfl,hb⟩
         clear l0 z0
         replace BE:=y36h (BE.out.trans (hb.mono BE.out.size))
         replace OS:=y36h (OS.out.later hb)
         clear hb
         have l0:=OS.out.o.cell
         have z0:=OS.out.o.lt
         go_wp2_with fail
         refine (M2 _ OS.out.w.lo).out.mono ?_
         rintro e w2 ⟨rfl,hb⟩
         clear l0 z0
         replace BE:=y36h (BE.out.trans (hb.mono BE.out.size))
         replace OS:=y36h (OS.out.later hb)
         clear hb
         have l0:=OS.out.o.cell
         have z0:=OS.out.o.lt
         go_wp2_with fail
         refine (CA _ OS.out HR2.out).out.mono ?_
         rintro e w3 ⟨rfl,hb⟩
         clear l0 z0
         replace BE:=y36h (BE.out.trans (hb.mono BE.out.size))
         replace OS:=y36h (OS.out.later hb)
         clear hb
         have l0:=OS.out.o.cell
         have z0:=OS.out.o.lt
         go_wp2_with fail
         go_ret
         exact ⟨zaa (by simp),BE.out⟩
 · have g1:decide (40 < (s.store.length:Int) + (s.out.length:Int)) = true:=decide_eq_true (by omega)
   have g2:decide (s.store.length + s.out.length ≤ 40) = false:=decide_eq_false hn
   rw [g2]
   clear g2
   go_enter Tryz.func37,Tryz.ntmps37
   go_wp2_with fail
   go_ret
   exact ⟨zaa (by simp),BE.out⟩
theorem zqn (s:St) (fv sv ov kv:Value) (k:Nat) (hk:k < 8) (hr:s.r = (k:Int) + 1) (w:World) (hS:StW w s fv sv ov kv) :
   Calls Tryz.prog 39 #[stV s fv sv ov kv] w fun e w'=>e = .returned (.bool (zgf s k)) ∧ Below w.heap.size w w':=by
 obtain ⟨of_,cf,rfl⟩:=zal hS.lf
 obtain ⟨os,cs,rfl⟩:=hS.ls.val
 obtain ⟨oo,co,rfl⟩:=hS.lo.val
 obtain ⟨ok,ck,rfl⟩:=hS.lk.val
 have HOK1:=y36h hS.ls.oks
 have HOK2:=y36h hS.lo.oks
 have OS0:StO (w.alloc (.cells (stA s (.slice of_ s.f.kids.length cf) (.slice os s.store.length cs) (.slice oo s.out.length co) (.slice ok s.k.l.length ck)) 43)) s (.slice of_ s.f.kids.length cf) (.slice os s.store.length cs) (.slice oo s.out.length co) (.slice ok s.k.l.length ck) w.heap.size:=⟨Own.new w _ _,hS.alloc _⟩
 have OS:=y36h OS0
 have BE:=y36h ((Below.refl w.heap.size w).alloc (Nat.le_refl _) (.cells (stA s (.slice of_ s.f.kids.length cf) (.slice os s.store.length cs) (.slice oo s.out.length co) (.slice ok s.k.l.length ck)) 43))
 have m1:=fun dd os_=>y36h (Calls.regrown_of (zht (zei s k) s.k.l (.slice ok s.k.l.length ck) w.heap.size _ (OS0.w.regrown dd os_).lk (fun w'' hb j f u hf hT=>zp9 s (.slice of_ s.f.kids.length cf) (.slice os s.store.length cs) (.slice oo s.out.length co) (.slice ok s.k.l.length ck) w.heap.size k hk hr f u w'' (((OS0.o.later (below_regrown _ dd os_)).later hb)) hT)))
 have m2:=fun dd os_=>y36h (Calls.regrown_of (zdn (zbw s) s.store (.slice os s.store.length cs) w.heap.size _ (OS0.w.regrown dd os_).ls (fun w'' hb x hx=>zhs s (.slice of_ s.f.kids.length cf) (.slice os s.store.length cs) (.slice oo s.out.length co) (.slice ok s.k.l.length ck) w.heap.size x w'' ((OS0.later (below_regrown _ dd os_)).later hb) (HOK1.out x hx).1)))
 have m3:=fun dd os_=>y36h (Calls.regrown_of (zdn (zbw s) s.out (.slice oo s.out.length co) w.heap.size _ (OS0.w.regrown dd os_).lo (fun w'' hb x hx=>zhs s (.slice of_ s.f.kids.length cf) (.slice os s.store.length cs) (.slice oo s.out.length co) (.slice ok s.k.l.length ck) w.heap.size x w'' ((OS0.later (below_regrown _ dd os_)).later hb) (HOK2.out x hx).1)))
 have L0:=fun dd os_=>(OS0.o.has.regrown dd os_ 0).trans (show _ = some (Value.int .i64 ((k:Int) + 1)) from by rw [← hr];rfl)
 have L6:=fun dd os_=>(OS0.o.has.regrown dd os_ 6).trans (show _ = some (Value.slice os s.store.length cs) from rfl)
 have L7:=fun dd os_=>(OS0.o.has.regrown dd os_ 7).trans (show _ = some (Value.slice oo s.out.length co) from rfl)
 have L8:=fun dd os_=>(OS0.o.has.regrown dd os_ (8 + k)).trans (zxz s (.slice of_ s.f.kids.length cf) (.slice os s.store.length cs) (.slice oo s.out.length co) (.slice ok s.k.l.length ck) hk)
 have L16:=fun dd os_=>(OS0.o.has.regrown dd os_ 16).trans (show _ = some (Value.slice ok s.k.l.length ck) from rfl)
 have L17:=fun dd os_=>(OS0.o.has.regrown dd os_ 17).trans (show _ = some (Value.int .i64 s.count) from rfl)
 have e:zgf s k = ((decide (s.k.star k ≤ s.count) && !(s.k.l.any (zei s k))) && (!(s.store.any (zbw s)) && !(s.out.any (zbw s)))):=rfl
 rw [e]
 have zs:=OS0.o.lt
 have k0:(0:Int) ≤ (k:Int):=by omega
 have k1:(k:Int) < 8:=by omega
 have k2:(k:Int) + 1 - 1 = k:=by omega
 clear hS e hr OS0
 generalize hA:s.k.l.any (zei s k) = bA at *
 generalize hB:s.store.any (zbw s) = bB at *
 generalize hC:s.out.any (zbw s) = bC at *
 clear hA hB hC
 by_cases hn:s.k.star k ≤ s.count
 · have g1:decide (s.k.star k ≤ s.count) = true:=decide_eq_true hn
   rw [g1]
   cases bA
   · cases bB
     · go_enter Tryz.func39,Tryz.ntmps39
       go_upto_region 3 with fail
       refine wp_region_quiet_below (by kernel_rfl) (by kernel_rfl) ?_
       repeat (first | go_big_quiet_step (first | (with_reducible exact (m1 _ _).out) | (with_reducible exact (m2 _ _).out) | (with_reducible exact (m3 _ _).out)) | quiet_step (first | (with_reducible exact (m1 _ _).out) | (with_reducible exact (m2 _ _).out) | (with_reducible exact (m3 _ _).out)))
       refine wpQuiet_nil ?_
       intro w7 hw'
       have hb7:=zac hw'
       clear hw' m1 m2 m3 L0 L6 L7 L8 L16 L17
       go_wp2_with fail
       go_ret
       exact ⟨zaa (by simp),BE.out.trans (hb7.mono BE.out.size)⟩
     · go_enter Tryz.func39,Tryz.ntmps39
       go_upto_region 3 with fail
       refine wp_region_quiet_below (by kernel_rfl) (by kernel_rfl) ?_
       repeat (first | go_big_quiet_step (first | (with_reducible exact (m1 _ _).out) | (with_reducible exact (m2 _ _).out) | (with_reducible exact (m3 _ _).out)) | quiet_step (first | (with_reducible exact (m1 _ _).out) | (with_reducible exact (m2 _ _).out) | (with_reducible exact (m3 _ _).out)))
       refine wpQuiet_nil ?_
       intro w7 hw'
       have hb7:=zac hw'
       clear hw' m1 m2 m3 L0 L6 L7 L8 L16 L17
       go_wp2_with fail
       go_ret
       exact ⟨zaa (by simp),BE.out.trans (hb7.mono BE.out.size)⟩
   · go_enter Tryz.func39,Tryz.ntmps39
     go_upto_region 3 with fail
     refine wp_region_quiet_below (by kernel_rfl) (by kernel_rfl) ?_
     repeat (first | go_big_quiet_step (first | (with_reducible exact (m1 _ _).out) | (with_reducible exact (m2 _ _).out) | (with_reducible exact (m3 _ _).out)) | quiet_step (first | (with_reducible exact (m1 _ _).out) | (with_reducible exact (m2 _ _).out) | (with_reducible exact (m3 _ _).out)))
     refine wpQuiet_nil ?_
     intro w7 hw'
     have hb7:=zac hw'
     clear hw' m1 m2 m3 L0 L6 L7 L8 L16 L17
     go_wp2_with fail
     go_ret
     exact ⟨zaa (by simp),BE.out.trans (hb7.mono BE.out.size)⟩
 · have g1:decide (s.k.star k ≤ s.count) = false:=decide_eq_false hn
   rw [g1]
   go_enter Tryz.func39,Tryz.ntmps39
   go_upto_region 3 with fail
   refine wp_region_quiet_below (by kernel_rfl) (by kernel_rfl) ?_
   repeat (first | go_big_quiet_step (first | (with_reducible exact (m1 _ _).out) | (with_reducible exact (m2 _ _).out) | (with_reducible exact (m3 _ _).out)) | quiet_step (first | (with_reducible exact (m1 _ _).out) | (with_reducible exact (m2 _ _).out) | (with_reducible exact (m3 _ _).out)))
   refine wpQuiet_nil ?_
   intro w7 hw'
   have hb7:=zac hw'
   clear hw' m1 m2 m3 L0 L6 L7 L8 L16 L17
   go_wp2_with fail
   go_ret
   exact ⟨zaa (by simp),BE.out.trans (hb7.mono BE.out.size)⟩
theorem zlj (s:St) (fv sv ov kv:Value) (w:World) (hS:StW w s fv sv ov kv) (h1:s.store.length ≤ 1000) (h2:s.out.length ≤ 1000) (h3:(zag s.k.l).length ≤ 10000) :
   Calls Tryz.prog 11 #[stV s fv sv ov kv] w fun e w'=>e = .returned (.bool (mayS s)) ∧ Below w.heap.size w w':=by
 obtain ⟨of_,cf,rfl⟩:=zal hS.lf
 obtain ⟨os,cs,rfl⟩:=hS.ls.val
 obtain ⟨oo,co,rfl⟩:=hS.lo.val
 obtain ⟨ok,ck,rfl⟩:=hS.lk.val
 have OS:StO (w.alloc (.cells (stA s (.slice of_ s.f.kids.length cf) (.slice os s.store.length cs) (.slice oo s.out.length co) (.slice ok s.k.l.length ck)) 43)) s (.slice of_ s.f.kids.length cf) (.slice os s.store.length cs) (.slice oo s.out.length co) (.slice ok s.k.l.length ck) w.heap.size:=⟨Own.new w _ _,hS.alloc _⟩
 have OS:=y36h OS
 have BE:=y36h ((Below.refl w.heap.size w).alloc (Nat.le_refl _) (.cells (stA s (.slice of_ s.f.kids.length cf) (.slice os s.store.length cs) (.slice oo s.out.length co) (.slice ok s.k.l.length ck)) 43))
 have N1:=fun w'=>y36h (zne s (.slice of_ s.f.kids.length cf) (.slice os s.store.length cs) (.slice oo s.out.length co) (.slice ok s.k.l.length ck) w')
 have N2:=fun w' h=>y36h (zdh s.f (.slice of_ s.f.kids.length cf) w' h)
 have N3:=fun w' h=>y36h (zpi s (.slice of_ s.f.kids.length cf) (.slice os s.store.length cs) (.slice oo s.out.length co) (.slice ok s.k.l.length ck) w' h h1 h2)
 have N4:=fun w' h=>y36h (znb zay rfl s.k (.slice ok s.k.l.length ck) w' h h3)
 have N5:(inB s.r 1 8 && numS s) = true → ∀ w' (h:StW w' s (.slice of_ s.f.kids.length cf) (.slice os s.store.length cs) (.slice oo s.out.length co) (.slice ok s.k.l.length ck)),Hid (Calls Tryz.prog 39 #[(stV s (.slice of_ s.f.kids.length cf) (.slice os s.store.length cs) (.slice oo s.out.length co) (.slice ok s.k.l.length ck))] w' fun e w''=>e = .returned (.bool (zgf s (s.r - 1).toNat)) ∧ Below w'.heap.size w' w''):=fun hn w' h=>by
   have hr:=inB_iff.1 (Bool.and_eq_true_iff.1 hn).1
   exact y36h (zqn s (.slice of_ s.f.kids.length cf) (.slice os s.store.length cs) (.slice oo s.out.length co) (.slice ok s.k.l.length ck) (s.r - 1).toNat (by omega) (by omega) w' h)
 have N5:=y36h N5
 have e:=zsr s
 unfold zls at e
 rw [← e]
 clear hS e
 have l0:=OS.out.o.cell
 have z0:=OS.out.o.lt
 generalize (inB s.r 1 8 && numS s) = bA at *
 generalize Pr.mayB s.f = bB at *
 generalize zgi s = bC at *
 generalize mayK zay s.k = bD at *
 generalize zgf s (s.r - 1).toNat = bE at *
 generalize s.store.length = n1 at *
 generalize s.out.length = n2 at *
 generalize s.k.l.length = n3 at *
 cases bA
 · go_enter Tryz.func11,Tryz.ntmps11
   go_wp2_with (first | (refine wpList_load_mid (by rfl) 43 _ (by rfl) w.heap.size 0 (by rfl) ((stA s (.slice of_ s.f.kids.length cf) (.slice os n1 cs) (.slice oo n2 co) (.slice ok n3 ck))).toList _ OS.out.o.range Tryz.underlying43 (by rfl) (by kernel_rfl) ?_) | fail)
   refine (N1 _).out.mono ?_
   rintro e w1 ⟨rfl,hb⟩
   clear l0 z0
   replace BE:=y36h (BE.out.trans (hb.mono BE.out.size))
   replace OS:=y36h (OS.out.later hb)
   clear hb
   have l0:=OS.out.o.cell
   have z0:=OS.out.o.lt
   go_wp2_with fail
   go_ret
   exact ⟨zaa (by simp),BE.out⟩
 · cases bB
   · go_enter Tryz.func11,Tryz.ntmps11
     go_wp2_with (first | (refine wpList_load_mid (by rfl) 43 _ (by rfl) w.heap.size 0 (by rfl) ((stA s (.slice of_ s.f.kids.length cf) (.slice os n1 cs) (.slice oo n2 co) (.slice ok n3 ck))).toList _ OS.out.o.range Tryz.underlying43 (by rfl) (by kernel_rfl) ?_) | fail)
     refine (N1 _).out.mono ?_
     rintro e w1 ⟨rfl,hb⟩
     clear l0 z0
     replace BE:=y36h (BE.out.trans (hb.mono BE.out.size))
     replace OS:=y36h (OS.out.later hb)
     clear hb
     have l0:=OS.out.o.cell
     have z0:=OS.out.o.lt
     go_wp2_with fail
     refine (N2 _ OS.out.w.lf).out.mono ?_
     rintro e w2 ⟨rfl,hb⟩
     clear l0 z0
     replace BE:=y36h (BE.out.trans (hb.mono BE.out.size))
     replace OS:=y36h (OS.out.later hb)
     clear hb
     have l0:=OS.out.o.cell
     have z0:=OS.out.o.lt
     go_wp2_with fail
     go_ret
     exact ⟨zaa (by simp),BE.out⟩
   · cases bC
     · go_enter Tryz.func11,Tryz.ntmps11
       go_wp2_with (first | (refine wpList_load_mid (by rfl) 43 _ (by rfl) w.heap.size 0 (by rfl) ((stA s (.slice of_ s.f.kids.length cf) (.slice os n1 cs) (.slice oo n2 co) (.slice ok n3 ck))).toList _ OS.out.o.range Tryz.underlying43 (by rfl) (by kernel_rfl) ?_) | fail)
       refine (N1 _).out.mono ?_
       rintro e w1 ⟨rfl,hb⟩
       clear l0 z0
       replace BE:=y36h (BE.out.trans (hb.mono BE.out.size))
       replace OS:=y36h (OS.out.later hb)
       clear hb
       have l0:=OS.out.o.cell
       have z0:=OS.out.o.lt
       go_wp2_with fail
       refine (N2 _ OS.out.w.lf).out.mono ?_
       rintro e w2 ⟨rfl,hb⟩
       clear l0 z0
       replace BE:=y36h (BE.out.trans (hb.mono BE.out.size))
       replace OS:=y36h (OS.out.later hb)
       clear hb
       have l0:=OS.out.o.cell
       have z0:=OS.out.o.lt
       go_wp2_with (first | (refine zce (by rfl) 43 _ (by rfl) w.heap.size 0 (by rfl) ((stA s (.slice of_ s.f.kids.length cf) (.slice os n1 cs) (.slice oo n2 co) (.slice ok n3 ck))).toList _ OS.out.o.range Tryz.underlying43 (by rfl) (by kernel_rfl) ?_) | fail)
       refine (N3 _ OS.out.w).out.mono ?_
       rintro e w3 ⟨rfl,hb⟩
       clear l0 z0
       replace BE:=y36h (BE.out.trans (hb.mono BE.out.size))
       replace OS:=y36h (OS.out.later hb)
       clear hb
       have l0:=OS.out.o.cell
       have z0:=OS.out.o.lt
       go_wp2_with fail
       go_ret
       exact ⟨zaa (by simp),BE.out⟩
     · cases bD
       · go_enter Tryz.func11,Tryz.ntmps11
         go_wp2_with (first | (refine wpList_load_mid (by rfl) 43 _ (by rfl) w.heap.size 0 (by rfl) ((stA s (.slice of_ s.f.kids.length cf) (.slice os n1 cs) (.slice oo n2 co) (.slice ok n3 ck))).toList _ OS.out.o.range Tryz.underlying43 (by rfl) (by kernel_rfl) ?_) | fail)
         refine (N1 _).out.mono ?_
         rintro e w1 ⟨rfl,hb⟩
         clear l0 z0
         replace BE:=y36h (BE.out.trans (hb.mono BE.out.size))
         replace OS:=y36h (OS.out.later hb)
         clear hb
         have l0:=OS.out.o.cell
         have z0:=OS.out.o.lt
         go_wp2_with fail
         refine (N2 _ OS.out.w.lf).out.mono ?_
         rintro e w2 ⟨rfl,hb⟩
         clear l0 z0
         replace BE:=y36h (BE.out.trans (hb.mono BE.out.size))
         replace OS:=y36h (OS.out.later hb)
         clear hb
         have l0:=OS.out.o.cell
         have z0:=OS.out.o.lt
         go_wp2_with (first | (refine zce (by rfl) 43 _ (by rfl) w.heap.size 0 (by rfl) ((stA s (.slice of_ s.f.kids.length cf) (.slice os n1 cs) (.slice oo n2 co) (.slice ok n3 ck))).toList _ OS.out.o.range Tryz.underlying43 (by rfl) (by kernel_rfl) ?_) | fail)
         refine (N3 _ OS.out.w).out.mono ?_
         rintro e w3 ⟨rfl,hb⟩
         clear l0 z0
         replace BE:=y36h (BE.out.trans (hb.mono BE.out.size))
         replace OS:=y36h (OS.out.later hb)
         clear hb
         have l0:=OS.out.o.cell
         have z0:=OS.out.o.lt
         go_wp2_with fail
         refine (N4 _ OS.out.w.lk).out.mono ?_
         rintro e w4 ⟨rfl,hb⟩
         clear l0 z0
         replace BE:=y36h (BE.out.trans (hb.mono BE.out.size))
         replace OS:=y36h (OS.out.later hb)
         clear hb
         have l0:=OS.out.o.cell
         have z0:=OS.out.o.lt
         go_wp2_with fail
         go_ret
         exact ⟨zaa (by simp),BE.out⟩
       · go_enter Tryz.func11,Tryz.ntmps11
         go_wp2_with (first | (refine wpList_load_mid (by rfl) 43 _ (by rfl) w.heap.size 0 (by rfl) ((stA s (.slice of_ s.f.kids.length cf) (.slice os n1 cs) (.slice oo n2 co) (.slice ok n3 ck))).toList _ OS.out.o.range Tryz.underlying43 (by rfl) (by kernel_rfl) ?_) | fail)
         refine (N1 _).out.mono ?_
         rintro e w1 ⟨rfl,hb⟩
         clear l0 z0
         replace BE:=y36h (BE.out.trans (hb.mono BE.out.size))
         replace OS:=y36h (OS.out.later hb)
         clear hb
         have l0:=OS.out.o.cell
         have z0:=OS.out.o.lt
         go_wp2_with fail
         refine (N2 _ OS.out.w.lf).out.mono ?_
         rintro e w2 ⟨rfl,hb⟩
         clear l0 z0
         replace BE:=y36h (BE.out.trans (hb.mono BE.out.size))
         replace OS:=y36h (OS.out.later hb)
         clear hb
         have l0:=OS.out.o.cell
         have z0:=OS.out.o.lt
         go_wp2_with (first | (refine zce (by rfl) 43 _ (by rfl) w.heap.size 0 (by rfl) ((stA s (.slice of_ s.f.kids.length cf) (.slice os n1 cs) (.slice oo n2 co) (.slice ok n3 ck))).toList _ OS.out.o.range Tryz.underlying43 (by rfl) (by kernel_rfl) ?_) | fail)
         refine (N3 _ OS.out.w).out.mono ?_
         rintro e w3 ⟨rfl,hb⟩
         clear l0 z0
         replace BE:=y36h (BE.out.trans (hb.mono BE.out.size))
         replace OS:=y36h (OS.out.later hb)
         clear hb
         have l0:=OS.out.o.cell
         have z0:=OS.out.o.lt
         go_wp2_with fail
         refine (N4 _ OS.out.w.lk).out.mono ?_
         rintro e w4 ⟨rfl,hb⟩
         clear l0 z0
         replace BE:=y36h (BE.out.trans (hb.mono BE.out.size))
         replace OS:=y36h (OS.out.later hb)
         clear hb
         have l0:=OS.out.o.cell
         have z0:=OS.out.o.lt
         go_wp2_with (first | (refine zce (by rfl) 43 _ (by rfl) w.heap.size 0 (by rfl) ((stA s (.slice of_ s.f.kids.length cf) (.slice os n1 cs) (.slice oo n2 co) (.slice ok n3 ck))).toList _ OS.out.o.range Tryz.underlying43 (by rfl) (by kernel_rfl) ?_) | fail)
         refine (N5.out (by first | trivial | rfl) _ OS.out.w).out.mono ?_
         rintro e w5 ⟨rfl,hb⟩
         clear l0 z0
         replace BE:=y36h (BE.out.trans (hb.mono BE.out.size))
         replace OS:=y36h (OS.out.later hb)
         clear hb
         have l0:=OS.out.o.cell
         have z0:=OS.out.o.lt
         go_wp2_with fail
         go_ret
         exact ⟨zaa (by simp),BE.out⟩
end Go.Proofs.YthnllikalobmeaaGreat
