/- Joined: RefFits, KMap, Same, KText. -/
import Derived.Test.YthnllikalobmeaaGreatJ18
import Derived.Deep.DeepCutAuto
import Derived.Deep.CutBlock
import Derived.Test.YthnllikalobmeaaGreatJ09
import Derived.Test.YthnllikalobmeaaGreatJ08
import Derived.Maps.OwnSet
import Derived.Test.YthnllikalobmeaaGreatJ05
import Derived.Test.YthnllikalobmeaaGreatJ06
namespace Go.Proofs.YthnllikalobmeaaGreat
set_option linter.unusedVariables false
set_option linter.unusedSimpArgs false
set_option maxRecDepth 100000
set_option maxHeartbeats 8000000
open Go.RowKit
theorem y19h {p:Prop} (h:p):Hid p:=Lib.hid h
end Go.Proofs.YthnllikalobmeaaGreat
namespace Go.Proofs.YthnllikalobmeaaGreat
set_option linter.unusedVariables false
set_option linter.unusedSimpArgs false
set_option maxRecDepth 100000
set_option maxHeartbeats 8000000
open Go.RowKit Go.Maps
abbrev zpi (v:Value):Option (DataW Value × List MemPlace):=some (.held v,[])
abbrev keyL (s:ByteArray):Lit:=.string s.data.toList
theorem zmp {s t:ByteArray} (h:keyL s = keyL t):s = t:=by
 simp only [keyL,Lit.string.injEq] at h
 cases s;cases t;simp at h;subst h;rfl
theorem zoh {s:ByteArray} (h:s.size ≤ maxLen):keyOf Tryz.prog 9 (.string s) = some (keyL s):=by
 simp [keyOf,mapKey,Tryz.underlying9,h]
theorem lawS:Keyed Tryz.prog 9:=string_keyed Tryz.underlying9
theorem zv5 (w:World):(zeroValue 28).run Tryz.prog w = .ok (vecV zac) w:=by kernel_rfl
def Cnt (w:World) (b nn:Nat) (ids:List ByteArray) (raw:ByteArray → Nat → Int):Prop :=
 ∃ D:DataW Value,w.ownsMap Tryz.prog 9 zpi b nn D ∧ (∀ s,D.atKey (keyL s) (.held (vecV zac)) = .held (vecV (raw s))) ∧ (∀ s,Maps.has D (keyL s) = true ↔ s ∈ ids)
section
variable {w w':World} {b nn:Nat} {ids:List ByteArray} {raw:ByteArray → Nat → Int}
theorem Cnt.made (w:World):Cnt (w.alloc (.map #[] 0)) w.heap.size 0 [] (fun _=>zac) :=
 ⟨.map [],World.ownsMap_made _ _ _ _,fun s=>by simp [DataW.atKey],fun s=>by simp [Maps.has]⟩
theorem Cnt.lt (h:Cnt w b nn ids raw):b < w.heap.size:=by
 obtain ⟨D,h,_⟩:=h
 exact h.lt
theorem Cnt.later (h:Cnt w b nn ids raw) (hb:Below w.heap.size w w'):Cnt w' b nn ids raw:=by
 have hlt:=h.lt
 obtain ⟨D,⟨es,clock,h1,F,h2,h3⟩,r⟩:=h
 exact ⟨D,⟨es,clock,(hb.block b hlt).trans h1,F,h2,h3⟩,r⟩
theorem Cnt.look (h:Cnt w b nn ids raw) {s:ByteArray} (hs:s.size ≤ maxLen):(Instr.lookup 145 (.map (some b)) (.string s) false).run Tryz.prog w = .ok (vecV (raw s)) w:=by
 obtain ⟨D,ho,ha,_⟩:=h
 obtain ⟨v,ps,hrun,hv⟩:=ho.lookup lawS Tryz.underlying145 (zv5 w) rfl (zoh hs)
 rw [ha] at hv
 simp only [zpi,Option.some.injEq,Prod.mk.injEq,DataW.held.injEq] at hv
 rw [hrun,hv.1]
theorem Cnt.put (h:Cnt w b nn ids raw) {s:ByteArray} (hs:s.size ≤ maxLen) (hn:nn < maxLen) (A:Nat → Int):∃ w',(Instr.mapUpdate 145 (.map (some b)) (.string s) (vecV A)).run Tryz.prog w = .ok () w' ∧
   Cnt w' b (nn + 1) (ids ++ [s]) (fun x=>if x = s then A else raw x) ∧ w.grownBy w' (some b):=by
 obtain ⟨D,ho,ha,hh⟩:=h
 obtain ⟨w',hrun,h1,h2⟩:=ho.update lawS Tryz.underlying145 hn (val:=vecV A) (zoh hs) rfl
 have hI:=ho.isMap
 refine ⟨w',hrun,⟨_,h1,fun x=>?_,fun x=>?_⟩,h2⟩
 · by_cases e:x = s
   · subst e
     rw [atKey_put_same hI (by exact trivial)]
     simp
   · rw [atKey_put_other (fun e'=>e (zmp e')),ha x]
     simp [e]
 · by_cases e:x = s
   · subst e
     rw [has_put_same hI (by exact trivial)];simp
   · rw [has_put_other (fun e'=>e (zmp e')),hh x];simp [e]
end
def pcEs:Nat → List (Nat → Int) → List MapEntry
 | _,[]=>[]
 | i,A :: l=>⟨vecV A,.int .i64 (i:Int),i⟩ :: pcEs (i + 1) l
theorem zts (l m:List (Nat → Int)):∀ i,pcEs i (l ++ m) = pcEs i l ++ pcEs (i + l.length) m:=by
 induction l with
 | nil=>intro i;simp [pcEs]
 | cons a l ih=>intro i;simp only [List.cons_append,pcEs,ih,List.length_cons];rw [show i + 1 + l.length = i + (l.length + 1) by omega]
def Pcs (w:World) (b:Nat) (vs:List (Nat → Int)):Prop:=w.heap[b]? = some (.map (pcEs 0 vs).toArray vs.length)
theorem zh6 (A B:Nat → Int):eqV A B = eqV B A:=by
 cases h:eqV A B with
 | true=>exact (eqV_iff.2 fun k hk=>(eqV_iff.1 h k hk).symm).symm
 | false =>
   cases h':eqV B A with
   | false=>rfl
   | true=>rw [eqV_iff.2 fun k hk=>(eqV_iff.1 h' k hk).symm] at h;cases h
theorem zlz (A B:Nat → Int) (w:World):(Op.equal 28 (vecV A) (vecV B)).run Tryz.prog w = .ok (eqV A B) w:=zff A B w
theorem zls (em:Bool) (A:Nat → Int) (w:World):(Instr.checkKey em 10000 28 (vecV A)).run Tryz.prog w = .ok () w:=by
 have ju:=Tryz.underlying3
 have ja:=Tryz.isAgg3
 have jz:=Tryz.sizeOf3
 rw [show (10000:Nat) = 9999 + 1 from rfl,Instr.checkKey]
 simp only [Sem.run_bind,run_underlying Tryz.underlying28,Result.andThen_ok]
 have hk:∀ n x w',(Instr.checkKey em (n + 1) 3 (.int .i64 x)).run Tryz.prog w' = .ok () w':=fun n x w'=>MapKept.run_checkKey ju (by first | exact rfl | simp [MapKept.IsKey]) em n
 simp only [Std.Legacy.Range.forIn_eq_forIn_range',Std.Legacy.Range.size,Nat.sub_zero,Nat.add_sub_cancel,Nat.div_one,List.range'_succ,List.range'_zero,List.forIn_cons,List.forIn_nil]
 rw [show (9999:Nat) = 9998 + 1 from rfl]
 go_simp
theorem zh0 (A:Nat → Int):∀ (vs:List (Nat → Int)) (i j:Nat) (w:World),(∀ B ∈ vs,eqV B A = false) → (Instr.findAsking 28 (vecV A) (pcEs i vs) j).run Tryz.prog w = .ok none w
 | [],i,j,w,_=>by simp [pcEs,Instr.findAsking]
 | B :: vs,i,j,w,h=>by
   have e:=zlz A B w
   rw [zh6,h B (by simp)] at e
   simp only [pcEs,Instr.findAsking,Sem.run_bind,e,Result.andThen_ok]
   exact zh0 A vs (i + 1) (j + 1) w fun C hC=>h C (by simp [hC])
theorem zn6 (A:Nat → Int):∀ (vs:List (Nat → Int)) (i j a:Nat) (w:World),(∀ k B,k < a → vs[k]? = some B → eqV B A = false) → (∃ B,vs[a]? = some B ∧ eqV B A = true) → (Instr.findAsking 28 (vecV A) (pcEs i vs) j).run Tryz.prog w = .ok (some (j + a,.int .i64 ((i + a:Nat):Int))) w
 | [],i,j,a,w,_,h=>by obtain ⟨B,h,_⟩:=h;simp at h
 | C :: vs,i,j,0,w,_,h=>by
   obtain ⟨B,hB,hq⟩:=h
   simp at hB;subst hB
   have e:=zlz A C w
   rw [zh6,hq] at e
   simp [pcEs,Instr.findAsking,Sem.run_bind,e,Result.andThen_ok]
 | C :: vs,i,j,a + 1,w,hn,h=>by
   have e:=zlz A C w
   rw [zh6,hn 0 C (by omega) rfl] at e
   simp only [pcEs,Instr.findAsking,Sem.run_bind,e,Result.andThen_ok]
   have:=zn6 A vs (i + 1) (j + 1) a w (fun k B hk hB=>hn (k + 1) B (by omega) (by simpa using hB)) (by obtain ⟨B,hB,hq⟩:=h;exact ⟨B,by simpa using hB,hq⟩)
   rw [show i + 1 + a = i + (a + 1) by omega,show j + 1 + a = j + (a + 1) by omega] at this
   exact this
theorem zpd (A:Nat → Int) (vs:List (Nat → Int)) (i:Nat) (w:World) {r:Option (Nat × Value)} (h:(Instr.findAsking 28 (vecV A) (pcEs i vs) 0).run Tryz.prog w = .ok r w):(Instr.findKey 28 (vecV A) (pcEs i vs)).run Tryz.prog w = .ok r w:=by
 unfold Instr.findKey
 simp only [Sem.run_bind,run_underlying Tryz.underlying28,Result.andThen_ok]
 cases vs with
 | nil=>simp [pcEs,Instr.findNow,Instr.findAsking] at *;exact h
 | cons B vs=>simp only [pcEs,Instr.findNow,Instr.sameNow] at *;exact h
section
variable {w w':World} {b:Nat} {vs:List (Nat → Int)}
theorem Pcs.made (w:World):Pcs (w.alloc (.map #[] 0)) w.heap.size []:=(MapKept.heap_alloc w _).1
theorem Pcs.lt (h:Pcs w b vs):b < w.heap.size:=(Array.getElem?_eq_some_iff.1 h).1
theorem Pcs.later (h:Pcs w b vs) (hb:Below w.heap.size w w'):Pcs w' b vs:=(hb.block b h.lt).trans h
theorem zyb (w:World):(zeroValue 3).run Tryz.prog w = .ok (.int .i64 0) w:=by kernel_rfl
theorem Pcs.miss (h:Pcs w b vs) {A:Nat → Int} (hn:∀ B ∈ vs,eqV B A = false):(Instr.lookup 147 (.map (some b)) (vecV A) true).run Tryz.prog w = .ok (.tuple #[.int .i64 0,.bool false]) w:=by
 simp [Instr.lookup,run_underlying Tryz.underlying147,MapKept.run_getObj_map h,zls,zpd A vs 0 w (zh0 A vs 0 0 w hn),zyb,Result.andThen]
theorem Pcs.hit (h:Pcs w b vs) {A:Nat → Int} {a:Nat} (hn:∀ k B,k < a → vs[k]? = some B → eqV B A = false) (hi:∃ B,vs[a]? = some B ∧ eqV B A = true):(Instr.lookup 147 (.map (some b)) (vecV A) true).run Tryz.prog w = .ok (.tuple #[.int .i64 a,.bool true]) w:=by
 have e:=zn6 A vs 0 0 a w hn hi
 simp only [Nat.zero_add] at e
 simp [Instr.lookup,run_underlying Tryz.underlying147,MapKept.run_getObj_map h,zls,zpd A vs 0 w e,Result.andThen]
theorem Pcs.put (h:Pcs w b vs) {A:Nat → Int} (hn:∀ B ∈ vs,eqV B A = false):∃ w',(Instr.mapUpdate 147 (.map (some b)) (vecV A) (.int .i64 (vs.length:Int))).run Tryz.prog w = .ok () w' ∧ Pcs w' b (vs ++ [A]) ∧ w.grownBy w' (some b):=by
 refine ⟨ChangeMaps.setBlock w b (.map ((pcEs 0 vs).toArray.push ⟨vecV A,.int .i64 (vs.length:Int),vs.length⟩) (vs.length + 1)),?_,?_,⟨rfl,rfl,rfl,by simp [ChangeMaps.setBlock],fun i _ hi=>ChangeMaps.heap_setBlock_other h _ (fun e=>hi (by rw [e]))⟩⟩
 · simp [Instr.mapUpdate,run_underlying Tryz.underlying147,MapKept.run_getObj_map h,zls,zpd A vs 0 w (zh0 A vs 0 0 w hn),MapKept.run_setObj_map _ h,Result.andThen,ChangeMaps.setBlock]
 · unfold Pcs
   rw [ChangeMaps.heap_setBlock_same h]
   rw [zts]
   simp [pcEs]
end
end Go.Proofs.YthnllikalobmeaaGreat
namespace Go.Proofs.YthnllikalobmeaaGreat
set_option linter.unusedVariables false
set_option linter.unusedSimpArgs false
set_option maxRecDepth 100000
set_option maxHeartbeats 8000000
open Go.RowKit
abbrev LK (w:World) (l:List Pr) (v:Value):Prop:=LP w (.node 0 ⟨#[]⟩ 0 0 0 l) v
theorem zre {w:World} {p:Pr} {v:Value} (h:LP w p v):LK w p.kids v:=by
 cases h with
 | mk op t n x y kids oa cap b o V ht hl hc hn hcell hrec=>exact .mk _ _ _ _ _ kids oa cap b o V (by decide) hl hc hn hcell hrec
def zxi (l m:List Pr) (len:Nat) (w0:World) (i:Value) (wr:World):Prop :=
 ∃ k:Nat,k ≤ len ∧ i = .int .i64 k ∧ Hid (Pr.sames (l.take k) (m.take k) = true) ∧ Below w0.heap.size w0 wr
theorem zim {l:List ByteArray} {k:Nat} {s x:ByteArray} (hx:l[k]? = some x) (h:za9 (l.take k) s = false) (hs:(s.toList == x.toList) = false):za9 (l.take (k + 1)) s = false:=by
 rw [ze7 hx]
 unfold za9 at *
 rw [List.any_append,h]
 simp only [List.any_cons,List.any_nil,Bool.or_false,Bool.false_or]
 rw [tl_ne] at hs ⊢
 exact fun e=>hs e.symm
theorem zjs {l:List ByteArray} {k:Nat} {s x:ByteArray} (hx:l[k]? = some x) (hs:(s.toList == x.toList) = true):za9 l s = true:=by
 rw [tl_eq] at hs;subst hs
 exact among_iff.2 (List.mem_of_getElem? hx)
def zur (l:List ByteArray) (s:ByteArray) (n:Nat) (w0:World) (i:Value) (wr:World):Prop:=∃ k:Nat,k ≤ n ∧ i = .int .i64 k ∧ Hid (za9 (l.take k) s = false) ∧ Hid (w0 = wr)
theorem zmj (l:List ByteArray) (v:Value) (s:ByteArray) (w:World) (hT:TxW w l v) :
   Calls Tryz.prog 109 #[v,.string s] w fun e w'=>∃ n:Int,e = .returned (.int .i64 n) ∧ decide (0 ≤ n) = za9 l s ∧ w' = w:=by
 obtain ⟨oa,cap,b,o,rfl,hT⟩:=hT
 have h1:=hT.len
 have h2:=hT.max
 unfold maxLen at h2
 have HT:=y19h hT
 clear hT
 generalize hn:l.length = n at *
 have HN:=y19h hn
 clear hn
 go_enter Tryz.func109,Tryz.ntmps109
 go_wp2_with fail
 go_loopw [8] (fun i wr=>zur l s n w i wr) (fun i _=>n - (intOf i).toNat)
 case atStart=>exact ⟨0,Nat.zero_le _,rfl,by simp [Hid,za9],rfl⟩
 case round =>
   obtain ⟨k,hk,rfl,HS,hw⟩:=hrel
   have ew:=hw.out
   subst ew
   clear hw
   by_cases hlt:k < n
   · obtain ⟨x,hx⟩:∃ x,l[k]? = some x:=⟨_,List.getElem?_eq_getElem (by rw [HN.out];exact hlt)⟩
     obtain ⟨rfl,hb⟩:=HT.out.at0 (by rw [HN.out];omega)
     have c0:=HT.out.cell k x hx
     cases hs:(s.toList == x.toList)
     · have HF:=y19h (zim hx HS.out hs)
       clear HS
       go_wp2_with fail
       go_roundw
       case rel=>exact ⟨k + 1,by omega,by go_num,HF,rfl⟩
       case measure=>simp [intOf];omega
     · have HF:=y19h (zjs hx hs)
       clear HS
       go_wp2_with fail
       go_ret
       exact ⟨_,rfl,by rw [HF.out];simp,rfl⟩
   · have h:=HS.out
     rw [List.take_of_length_le (by rw [HN.out];omega)] at h
     have HF:=y19h h
     clear h HS
     go_wp2_with fail
     go_ret
     exact ⟨_,rfl,by rw [HF.out];simp,rfl⟩
theorem ziw (l:List ByteArray) (v:Value) (s:ByteArray) (w:World) (hT:TxW w l v) :
   Calls Tryz.prog 63 #[v,.string s] w fun e w'=>e = .returned (.bool (za9 l s)) ∧ w' = w:=by
 have C:=y19h (zmj l v s w hT)
 obtain ⟨oa,cap,rfl⟩:=hT.val
 clear hT
 go_enter Tryz.func63,Tryz.ntmps63
 go_wp2_with (go_at_call 109;refine C.out.mono ?_;rintro e w' ⟨n,rfl,hn,rfl⟩)
 go_ret
 first | exact ⟨zaa hn,rfl⟩ | exact ⟨rfl,rfl⟩
def zwb (l m:List ByteArray) (n:Nat) (w0:World) (i:Value) (wr:World):Prop:=∃ k:Nat,k ≤ n ∧ i = .int .i64 k ∧ Hid (∀ j,j < k → l[j]? = m[j]?) ∧ Hid (Below w0.heap.size w0 wr)
theorem keqIds_iff:∀ {l m:List ByteArray},zbo l m = true ↔ l = m
 | [],[]=>by simp [zbo]
 | [],b :: m=>by simp [zbo]
 | a :: l,[]=>by simp [zbo]
 | a :: l,b :: m=>by
   have:=keqIds_iff (l:=l) (m:=m)
   simp only [zbo,Bool.and_eq_true,List.cons.injEq]
   rw [this]
   constructor
   · rintro ⟨h1,h2⟩;exact ⟨by first | exact tl_eq.1 h1 | simpa using h1,h2⟩
   · rintro ⟨h1,h2⟩;subst h1;exact ⟨by simp,h2⟩
theorem zkn {l m:List ByteArray} (h:l ≠ m):zbo l m = false:=by
 cases e:zbo l m with
 | false=>rfl
 | true=>exact absurd (keqIds_iff.1 e) h
theorem zl1 (l m:List ByteArray) (v v':Value) (w:World) (hT:TxW w l v) (hM:TxW w m v') :
   Calls Tryz.prog 126 #[v,v'] w fun e w'=>e = .returned (.bool (zbo l m)) ∧ Below w.heap.size w w':=by
 obtain ⟨oa,cap,b,o,rfl,hT⟩:=hT
 obtain ⟨oa',cap',b',o',rfl,hM⟩:=hM
 have h1:=hT.len
 have h2:=hT.max
 have h1':=hM.len
 have h2':=hM.max
 unfold maxLen at h2 h2'
 have HT:=y19h hT
 have HM:=y19h hM
 clear hT hM
 by_cases hl:l.length = m.length
 · rw [← hl] at h1' ⊢
   have HL:=y19h hl
   clear hl
   have hne:((l.length:Int) == (l.length:Int)) = true:=by simp
   generalize hn:l.length = n at *
   have HN:=y19h hn
   clear hn
   go_enter Tryz.func126,Tryz.ntmps126
   go_wp2_with fail
   go_loopw [13] (fun i wr=>zwb l m n w i wr) (fun i _=>n - (intOf i).toNat)
   case atStart=>exact ⟨0,Nat.zero_le _,rfl,y19h fun j hj=>absurd hj (by omega),y19h (Below.refl _ _)⟩
   case round =>
     obtain ⟨k,hk,rfl,HS,HB⟩:=hrel
     by_cases hlt:k < n
     · obtain ⟨x,hx⟩:∃ x,l[k]? = some x:=⟨_,List.getElem?_eq_getElem (by rw [HN.out];exact hlt)⟩
       obtain ⟨y,hy⟩:∃ y,m[k]? = some y:=⟨_,List.getElem?_eq_getElem (by rw [← HL.out];exact hlt)⟩
       obtain ⟨rfl,hb⟩:=HT.out.at0 (by rw [HN.out];omega)
       obtain ⟨rfl,hb'⟩:=HM.out.at0 (by rw [← HL.out];omega)
       have c0:=(HT.out.later HB.out (Nat.le_refl _)).cell k x hx
       have c1:=(HM.out.later HB.out (Nat.le_refl _)).cell k y hy
       have r0:=fun dd os=>cell_regrown c0 dd os
       have r1:=fun dd os=>cell_regrown c1 dd os
       have z0:b < wr.heap.size:=Nat.lt_of_lt_of_le hb HB.out.size
       have z1:b' < wr.heap.size:=Nat.lt_of_lt_of_le hb' HB.out.size
       have HX:=y19h hx
       have HY:=y19h hy
       have k0:(0:Int) ≤ (k:Int):=by omega
       have k1:(k:Int) < (n:Int):=by omega
       clear c0 c1 hx hy hb hb'
       cases hs:(x.toList == y.toList)
       · have HF:=y19h (show zbo l m = false from zkn (fun e=>by
           have h1:=HX.out
           rw [e,HY.out] at h1
           cases h1;simp at hs))
         go_wp2_with fail
         refine wp_region_quiet_below (by kernel_rfl) (by kernel_rfl) ?_
         repeat (first | go_big_quiet_step (fail) | quiet_step (fail))
         refine wpQuiet_nil ?_
         intro w7 hw'
         have hb7:=y19h (zae hw')
         clear hw' r0 r1
         go_wp2_with fail
         go_ret
         exact ⟨zaa HF.out.symm,HB.out.trans (hb7.out.mono HB.out.size)⟩
       · have HF:=y19h (show ∀ j,j < k + 1 → l[j]? = m[j]? from fun j hj=>by
           by_cases e:j = k
           · subst e;rw [HX.out,HY.out,tl_eq.1 hs]
           · exact HS.out j (by omega))
         go_wp2_with fail
         refine wp_region_quiet_below (by kernel_rfl) (by kernel_rfl) ?_
         repeat (first | go_big_quiet_step (fail) | quiet_step (fail))
         refine wpQuiet_nil ?_
         intro w7 hw'
         have hb7:=y19h (zae hw')
         clear hw' r0 r1
         go_wp2_with fail
         go_roundw
         case rel=>exact ⟨k + 1,by omega,by go_num,HF,y19h (HB.out.trans (hb7.out.mono HB.out.size))⟩
         case measure=>simp [intOf];omega
     · have HF:=y19h (show zbo l m = true from keqIds_iff.2 (List.ext_getElem? fun j=>by
         by_cases hj:j < k
         · exact HS.out j hj
         · rw [List.getElem?_eq_none (by rw [HN.out];omega),List.getElem?_eq_none (by rw [← HL.out];omega)]))
       go_wp2_with fail
       go_ret
       exact ⟨zaa HF.out.symm,HB.out⟩
 · have HF:=y19h (zkn (l:=l) (m:=m) (fun e=>hl (by rw [e])))
   have hne:((l.length:Int) == (m.length:Int)) = false:=by simp;omega
   clear hl
   go_enter Tryz.func126,Tryz.ntmps126
   go_wp2_with fail
   go_ret
   exact ⟨zaa HF.out.symm,Below.refl _ _⟩
def zxm (l:List ByteArray) (n:Nat) (w0:World) (i:Value) (wr:World):Prop:=∃ k:Nat,k ≤ n ∧ i = .int .i64 k ∧ Hid ((l.take k).any (fun s=>!zax s) = false) ∧ Hid (w0 = wr)
theorem zp0 (s:ByteArray) (w:World) :
   Calls Tryz.prog 123 #[.string s] w fun e w'=>e = .returned (.bool (!zax s)) ∧ w' = w:=by
 have H:=y19h (zeb s w)
 generalize zax s = r at *
 go_enter Tryz.func123,Tryz.ntmps123
 go_wp2_with (go_at_call 97;refine (H.out).mono ?_;rintro e w' ⟨rfl,rfl⟩)
 go_ret
 exact ⟨rfl,rfl⟩
theorem zmi (l:List ByteArray) (v:Value) (w:World) (hT:TxW w l v) :
   Calls Tryz.prog 160 #[v,.func (Fn.func 123) #[] #[]] w fun e w'=>∃ n:Int,e = .returned (.int .i64 n) ∧ decide (0 ≤ n) = (l.any fun s=>!zax s) ∧ w' = w:=by
 obtain ⟨oa,cap,b,o,rfl,hT⟩:=hT
 have h1:=hT.len
 have h2:=hT.max
 unfold maxLen at h2
 have HT:=y19h hT
 clear hT
 generalize hn:l.length = n at *
 have HN:=y19h hn
 clear hn
 go_enter Tryz.func160,Tryz.ntmps160
 go_wp2_with fail
 go_loopw [8] (fun i wr=>zxm l n w i wr) (fun i _=>n - (intOf i).toNat)
 case atStart=>exact ⟨0,Nat.zero_le _,rfl,by simp [Hid],rfl⟩
 case round =>
   obtain ⟨k,hk,rfl,HS,hw⟩:=hrel
   have ew:=hw.out
   subst ew
   clear hw
   by_cases hlt:k < n
   · obtain ⟨x,hx⟩:∃ x,l[k]? = some x:=⟨_,List.getElem?_eq_getElem (by rw [HN.out];exact hlt)⟩
     obtain ⟨rfl,hb⟩:=HT.out.at0 (by rw [HN.out];omega)
     have c0:=HT.out.cell k x hx
     have C:=y19h (zp0 x w)
     have HX:=y19h hx
     clear hx
     cases hs:zax x
     · rw [hs] at C
       have HF:=y19h (show (l.any fun s=>!zax s) = true from List.any_eq_true.2 ⟨x,List.mem_of_getElem? HX.out,by rw [hs];rfl⟩)
       clear HS
       go_wp2_with (go_at_call 123;refine C.out.mono ?_;rintro e w' ⟨rfl,rfl⟩)
       go_ret
       exact ⟨_,rfl,by rw [HF.out];simp,rfl⟩
     · rw [hs] at C
       have HF:=y19h (show ((l.take (k + 1)).any fun s=>!zax s) = false by rw [ze7 HX.out,List.any_append,HS.out];simp [hs])
       clear HS
       go_wp2_with (go_at_call 123;refine C.out.mono ?_;rintro e w' ⟨rfl,rfl⟩)
       go_roundw
       case rel=>exact ⟨k + 1,by omega,by go_num,HF,rfl⟩
       case measure=>simp [intOf];omega
   · have h:=HS.out
     rw [List.take_of_length_le (by rw [HN.out];omega)] at h
     have HF:=y19h h
     clear h HS
     go_wp2_with fail
     go_ret
     exact ⟨_,rfl,by rw [HF.out];simp,rfl⟩
theorem ziv (l:List ByteArray) (v:Value) (w:World) (hT:TxW w l v) :
   Calls Tryz.prog 122 #[v,.func (Fn.func 123) #[] #[]] w fun e w'=>e = .returned (.bool (l.any fun s=>!zax s)) ∧ w' = w:=by
 have C:=y19h (zmi l v w hT)
 obtain ⟨oa,cap,rfl⟩:=hT.val
 clear hT
 go_enter Tryz.func122,Tryz.ntmps122
 go_wp2_with (go_at_call 160;refine C.out.mono ?_;rintro e w' ⟨n,rfl,hn,rfl⟩)
 go_ret
 first | exact ⟨zaa hn,rfl⟩ | exact ⟨rfl,rfl⟩
end Go.Proofs.YthnllikalobmeaaGreat
