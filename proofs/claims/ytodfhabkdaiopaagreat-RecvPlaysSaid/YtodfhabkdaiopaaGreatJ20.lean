/- Joined: Pfx, KMap, KBey, Keys. -/
import Derived.Test.YtodfhabkdaiopaaGreatJ11
import Derived.Test.YtodfhabkdaiopaaGreatJ01
import Derived.Test.YtodfhabkdaiopaaGreatJ08
import Derived.Test.YtodfhabkdaiopaaGreatJ07
import Derived.Maps.OwnSet
import Derived.Test.YtodfhabkdaiopaaGreatJ02
import Derived.Shelf.SlIter.Nil
import Derived.Shelf.SortM.Plain
import Derived.Shelf.SortM.SortNone
namespace Go.Proofs.YtodfhabkdaiopaaGreat
set_option linter.unusedVariables false
set_option linter.unusedSimpArgs false
set_option maxRecDepth 100000
set_option maxHeartbeats 8000000
open Go.RowKit
theorem zsz {s t:ByteArray} (h:s.size < t.size):begB s t=false:=by
 unfold begB
 cases h1:t.data.toList.isPrefixOf s.data.toList with
 | false=>rfl
 | true =>
   have h3:=(List.isPrefixOf_iff_prefix.1 h1).length_le
   have e1:t.data.toList.length=t.size:=by simp
   have e2:s.data.toList.length=s.size:=by simp
   omega
theorem zvi {s t:ByteArray} (h:t.size≤s.size):begB s t=(s.data.toList.take t.size == t.data.toList):=by
 unfold begB
 rw [Bool.eq_iff_iff,List.isPrefixOf_iff_prefix,beq_iff_eq,List.prefix_iff_eq_take]
 have e1:t.data.toList.length=t.size:=by simp
 rw [e1]
 exact eq_comm
theorem zne (s t:ByteArray) (w:World) (hs:s.size≤maxLen) (ht:t.size≤maxLen) :
   Calls Tryz.prog 228 #[.string s,.string t] w fun e w'=>e=.returned (.bool (begB s t))∧w=w':=by
 unfold maxLen at hs ht
 by_cases h:t.size≤s.size
 · have E:=Lib.hid (zvi h)
   have h1:(t.size:Int)≤(s.size:Int):=by omega
   go_enter Tryz.func228,Tryz.ntmps228
   go_wp2_with fail
   go_ret
   refine ⟨zac ?_,rfl⟩
   rw [E.out]
   rw [ByteArray.toList_eq,ByteArray.toList_eq]
   simp [ByteArray.data_extract]
 · have E:=Lib.hid (zsz (s:=s) (t:=t) (by omega))
   have h1:(s.size:Int) < (t.size:Int):=by omega
   go_enter Tryz.func228,Tryz.ntmps228
   go_wp2_with fail
   go_ret
   exact ⟨zac E.out.symm,rfl⟩
theorem zoz (s t:ByteArray) (w:World) (hs:s.size≤maxLen) (ht:t.size≤maxLen) :
   Calls Tryz.prog 195 #[.string s,.string t] w fun e w'=>e=.returned (.bool (begB s t))∧w=w':=by
 have H:=Lib.hid (zne s t w hs ht)
 go_enter Tryz.func195,Tryz.ntmps195
 go_wp2_with (go_at_call 228;refine (H.out).mono ?_;rintro e w' ⟨rfl,rfl⟩)
 go_ret
 exact ⟨rfl,rfl⟩
end Go.Proofs.YtodfhabkdaiopaaGreat
namespace Go.Proofs.YtodfhabkdaiopaaGreat
set_option linter.unusedVariables false
set_option linter.unusedSimpArgs false
set_option maxRecDepth 100000
set_option maxHeartbeats 8000000
open Go.RowKit Go.Maps
abbrev zru (v:Value):Option (DataW Value × List MemPlace):=some (.held v,[])
abbrev keyL (s:ByteArray):Lit:=.string s.data.toList
theorem zom {s t:ByteArray} (h:keyL s=keyL t):s=t:=by
 simp only [keyL,Lit.string.injEq] at h
 cases s;cases t;simp at h;subst h;rfl
theorem zqv {s:ByteArray} (h:s.size≤maxLen):keyOf Tryz.prog 9 (.string s)=some (keyL s):=by
 simp [keyOf,mapKey,Tryz.underlying9,h]
theorem lawS:Keyed Tryz.prog 9:=string_keyed Tryz.underlying9
theorem zzi (w:World):(zeroValue 35).run Tryz.prog w=.ok (vecV zad) w:=by kernel_rfl
def Cnt (w:World) (b nn:Nat) (ids:List ByteArray) (raw:ByteArray→Nat→Int):Prop :=
 ∃ D:DataW Value,w.ownsMap Tryz.prog 9 zru b nn D∧(∀ s,D.atKey (keyL s) (.held (vecV zad))=.held (vecV (raw s)))∧(∀ s,Maps.has D (keyL s)=true ↔ s∈ids)
section
variable {w w':World} {b nn:Nat} {ids:List ByteArray} {raw:ByteArray→Nat→Int}
theorem Cnt.made (w:World):Cnt (w.alloc (.map #[] 0)) w.heap.size 0 [] (fun _=>zad) :=
 ⟨.map [],World.ownsMap_made _ _ _ _,fun s=>by simp [DataW.atKey],fun s=>by simp [Maps.has]⟩
theorem Cnt.lt (h:Cnt w b nn ids raw):b < w.heap.size:=by
 obtain ⟨D,h,_⟩:=h
 exact h.lt
theorem Cnt.later (h:Cnt w b nn ids raw) (hb:Below w.heap.size w w'):Cnt w' b nn ids raw:=by
 have hlt:=h.lt
 obtain ⟨D,⟨es,clock,h1,F,h2,h3⟩,r⟩:=h
 exact ⟨D,⟨es,clock,(hb.block b hlt).trans h1,F,h2,h3⟩,r⟩
theorem Cnt.look (h:Cnt w b nn ids raw) {s:ByteArray} (hs:s.size≤maxLen):(Instr.lookup 230 (.map (some b)) (.string s) false).run Tryz.prog w=.ok (vecV (raw s)) w:=by
 obtain ⟨D,ho,ha,_⟩:=h
 obtain ⟨v,ps,hrun,hv⟩:=ho.lookup lawS Tryz.underlying230 (zzi w) rfl (zqv hs)
 rw [ha] at hv
 simp only [zru,Option.some.injEq,Prod.mk.injEq,DataW.held.injEq] at hv
 rw [hrun,hv.1]
theorem Cnt.put (h:Cnt w b nn ids raw) {s:ByteArray} (hs:s.size≤maxLen) (hn:nn < maxLen) (A:Nat→Int):∃ w',(Instr.mapUpdate 230 (.map (some b)) (.string s) (vecV A)).run Tryz.prog w=.ok () w' ∧
   Cnt w' b (nn + 1) (ids ++ [s]) (fun x=>if x=s then A else raw x)∧w.grownBy w' (some b):=by
 obtain ⟨D,ho,ha,hh⟩:=h
 obtain ⟨w',hrun,h1,h2⟩:=ho.update lawS Tryz.underlying230 hn (val:=vecV A) (zqv hs) rfl
 have hI:=ho.isMap
 refine ⟨w',hrun,⟨_,h1,fun x=>?_,fun x=>?_⟩,h2⟩
 · by_cases e:x=s
   · subst e
     rw [atKey_put_same hI (by exact trivial)]
     simp
   · rw [atKey_put_other (fun e'=>e (zom e')),ha x]
     simp [e]
 · by_cases e:x=s
   · subst e
     rw [has_put_same hI (by exact trivial)];simp
   · rw [has_put_other (fun e'=>e (zom e')),hh x];simp [e]
end
def pcEs:Nat→List (Nat→Int)→List MapEntry
 | _,[]=>[]
 | i,A :: l=>⟨vecV A,.int .i64 (i:Int),i⟩ :: pcEs (i + 1) l
theorem zwr (l m:List (Nat→Int)):∀ i,pcEs i (l ++ m)=pcEs i l ++ pcEs (i + l.length) m:=by
 induction l with
 | nil=>intro i;simp [pcEs]
 | cons a l ih=>intro i;simp only [List.cons_append,pcEs,ih,List.length_cons];rw [show i + 1 + l.length=i + (l.length + 1) by omega]
def Pcs (w:World) (b:Nat) (vs:List (Nat→Int)):Prop:=w.heap[b]?=some (.map (pcEs 0 vs).toArray vs.length)
theorem zjt (A B:Nat→Int):eqV A B=eqV B A:=by
 cases h:eqV A B with
 | true=>exact (eqV_iff.2 fun k hk=>(eqV_iff.1 h k hk).symm).symm
 | false =>
   cases h':eqV B A with
   | false=>rfl
   | true=>rw [eqV_iff.2 fun k hk=>(eqV_iff.1 h' k hk).symm] at h;cases h
theorem zn2 (A B:Nat→Int) (w:World):(Op.equal 35 (vecV A) (vecV B)).run Tryz.prog w=.ok (eqV A B) w:=zgf A B w
theorem znw (em:Bool) (A:Nat→Int) (w:World):(Instr.checkKey em 10000 35 (vecV A)).run Tryz.prog w=.ok () w:=by
 have ju:=Tryz.underlying3
 have ja:=Tryz.isAgg3
 have jz:=Tryz.sizeOf3
 rw [show (10000:Nat)=9999 + 1 from rfl,Instr.checkKey]
 simp only [Sem.run_bind,run_underlying Tryz.underlying35,Result.andThen_ok]
 have hk:∀ n x w',(Instr.checkKey em (n + 1) 3 (.int .i64 x)).run Tryz.prog w'=.ok () w':=fun n x w'=>MapKept.run_checkKey ju (by first | exact rfl | simp [MapKept.IsKey]) em n
 simp only [Std.Legacy.Range.forIn_eq_forIn_range',Std.Legacy.Range.size,Nat.sub_zero,Nat.add_sub_cancel,Nat.div_one,List.range'_succ,List.range'_zero,List.forIn_cons,List.forIn_nil]
 rw [show (9999:Nat)=9998 + 1 from rfl]
 go_simp
theorem zjm (A:Nat→Int):∀ (vs:List (Nat→Int)) (i j:Nat) (w:World),(∀ B∈vs,eqV B A=false)→(Instr.findAsking 35 (vecV A) (pcEs i vs) j).run Tryz.prog w=.ok none w
 | [],i,j,w,_=>by simp [pcEs,Instr.findAsking]
 | B :: vs,i,j,w,h=>by
   have e:=zn2 A B w
   rw [zjt,h B (by simp)] at e
   simp only [pcEs,Instr.findAsking,Sem.run_bind,e,Result.andThen_ok]
   exact zjm A vs (i + 1) (j + 1) w fun C hC=>h C (by simp [hC])
theorem zqk (A:Nat→Int):∀ (vs:List (Nat→Int)) (i j a:Nat) (w:World),(∀ k B,k < a→vs[k]?=some B→eqV B A=false)→(∃ B,vs[a]?=some B∧eqV B A=true)→(Instr.findAsking 35 (vecV A) (pcEs i vs) j).run Tryz.prog w=.ok (some (j + a,.int .i64 ((i + a:Nat):Int))) w
 | [],i,j,a,w,_,h=>by obtain ⟨B,h,_⟩:=h;simp at h
 | C :: vs,i,j,0,w,_,h=>by
   obtain ⟨B,hB,hq⟩:=h
   simp at hB;subst hB
   have e:=zn2 A C w
   rw [zjt,hq] at e
   simp [pcEs,Instr.findAsking,Sem.run_bind,e,Result.andThen_ok]
 | C :: vs,i,j,a + 1,w,hn,h=>by
   have e:=zn2 A C w
   rw [zjt,hn 0 C (by omega) rfl] at e
   simp only [pcEs,Instr.findAsking,Sem.run_bind,e,Result.andThen_ok]
   have:=zqk A vs (i + 1) (j + 1) a w (fun k B hk hB=>hn (k + 1) B (by omega) (by simpa using hB)) (by obtain ⟨B,hB,hq⟩:=h;exact ⟨B,by simpa using hB,hq⟩)
   rw [show i + 1 + a=i + (a + 1) by omega,show j + 1 + a=j + (a + 1) by omega] at this
   exact this
theorem zrp (A:Nat→Int) (vs:List (Nat→Int)) (i:Nat) (w:World) {r:Option (Nat × Value)} (h:(Instr.findAsking 35 (vecV A) (pcEs i vs) 0).run Tryz.prog w=.ok r w):(Instr.findKey 35 (vecV A) (pcEs i vs)).run Tryz.prog w=.ok r w:=by
 unfold Instr.findKey
 simp only [Sem.run_bind,run_underlying Tryz.underlying35,Result.andThen_ok]
 cases vs with
 | nil=>simp [pcEs,Instr.findNow,Instr.findAsking] at *;exact h
 | cons B vs=>simp only [pcEs,Instr.findNow,Instr.sameNow] at *;exact h
section
variable {w w':World} {b:Nat} {vs:List (Nat→Int)}
theorem Pcs.made (w:World):Pcs (w.alloc (.map #[] 0)) w.heap.size []:=(MapKept.heap_alloc w _).1
theorem Pcs.lt (h:Pcs w b vs):b < w.heap.size:=(Array.getElem?_eq_some_iff.1 h).1
theorem Pcs.later (h:Pcs w b vs) (hb:Below w.heap.size w w'):Pcs w' b vs:=(hb.block b h.lt).trans h
theorem z1y (w:World):(zeroValue 3).run Tryz.prog w=.ok (.int .i64 0) w:=by kernel_rfl
theorem Pcs.miss (h:Pcs w b vs) {A:Nat→Int} (hn:∀ B∈vs,eqV B A=false):(Instr.lookup 232 (.map (some b)) (vecV A) true).run Tryz.prog w=.ok (.tuple #[.int .i64 0,.bool false]) w:=by
 simp [Instr.lookup,run_underlying Tryz.underlying232,MapKept.run_getObj_map h,znw,zrp A vs 0 w (zjm A vs 0 0 w hn),z1y,Result.andThen]
theorem Pcs.hit (h:Pcs w b vs) {A:Nat→Int} {a:Nat} (hn:∀ k B,k < a→vs[k]?=some B→eqV B A=false) (hi:∃ B,vs[a]?=some B∧eqV B A=true):(Instr.lookup 232 (.map (some b)) (vecV A) true).run Tryz.prog w=.ok (.tuple #[.int .i64 a,.bool true]) w:=by
 have e:=zqk A vs 0 0 a w hn hi
 simp only [Nat.zero_add] at e
 simp [Instr.lookup,run_underlying Tryz.underlying232,MapKept.run_getObj_map h,znw,zrp A vs 0 w e,Result.andThen]
theorem Pcs.put (h:Pcs w b vs) {A:Nat→Int} (hn:∀ B∈vs,eqV B A=false):∃ w',(Instr.mapUpdate 232 (.map (some b)) (vecV A) (.int .i64 (vs.length:Int))).run Tryz.prog w=.ok () w'∧Pcs w' b (vs ++ [A])∧w.grownBy w' (some b):=by
 refine ⟨ChangeMaps.setBlock w b (.map ((pcEs 0 vs).toArray.push ⟨vecV A,.int .i64 (vs.length:Int),vs.length⟩) (vs.length + 1)),?_,?_,⟨rfl,rfl,rfl,by simp [ChangeMaps.setBlock],fun i _ hi=>ChangeMaps.heap_setBlock_other h _ (fun e=>hi (by rw [e]))⟩⟩
 · simp [Instr.mapUpdate,run_underlying Tryz.underlying232,MapKept.run_getObj_map h,znw,zrp A vs 0 w (zjm A vs 0 0 w hn),MapKept.run_setObj_map _ h,Result.andThen,ChangeMaps.setBlock]
 · unfold Pcs
   rw [ChangeMaps.heap_setBlock_same h]
   rw [zwr]
   simp [pcEs]
end
end Go.Proofs.YtodfhabkdaiopaaGreat
namespace Go.Proofs.YtodfhabkdaiopaaGreat
set_option linter.unusedVariables false
set_option linter.unusedSimpArgs false
set_option maxRecDepth 100000
set_option maxHeartbeats 8000000
open Go.RowKit
def bzV (V A:Nat→Int) (j:Nat):Int:=if V j≤A j then 0 else V j
def bz8 (V A:Nat→Int) (k:Nat) (j:Nat):Int:=if j < k then bzV V A j else V j
theorem zvl (V A:Nat→Int):arr8 V=arr8 (bz8 V A 0):=zbj fun j _=>by unfold bz8;rw [if_neg (by omega)]
theorem zs4 (V A:Nat→Int):arr8 (bz8 V A 8)=arr8 (bzV V A):=zbj fun j h=>by unfold bz8;rw [if_pos h]
theorem zyg (V A:Nat→Int) {k:Nat} {v:Int} (hv:v=bzV V A k):arr8 (fun j=>if j=k then v else bz8 V A k j)=arr8 (bz8 V A (k + 1)):=zbj fun j _=>by
 unfold bz8
 by_cases e:j=k
 · subst e;rw [if_pos rfl,if_pos (by omega)];exact hv
 · rw [if_neg e]
   by_cases h:j < k
   · rw [if_pos h,if_pos (by omega)]
   · rw [if_neg h,if_neg (by omega)]
theorem zvk (V A:Nat→Int) {k:Nat} (hv:V k=bzV V A k):arr8 (bz8 V A k)=arr8 (bz8 V A (k + 1)):=zbj fun j _=>by
 unfold bz8
 by_cases e:j=k
 · subst e;rw [if_neg (by omega),if_pos (by omega)];exact hv
 · by_cases h:j < k
   · rw [if_pos h,if_pos (by omega)]
   · rw [if_neg h,if_neg (by omega)]
structure BZ (V A:Nat→Int) (k:Nat) (w wr:World):Prop where
 o1:Own wr w.heap.size (arr8 (bz8 V A k)) 35
 o3:Own wr (w.heap.size + 1 + 1) (arr8 fun _=>0) 35
 bel:Below w.heap.size w wr
def z02 (V A:Nat→Int) (w:World) (i:Value) (wr:World):Prop:=∃ k:Nat,k≤8∧i=.int .i64 k∧Hid (BZ V A k w wr)
theorem zjp (V A:Nat→Int) (w:World) :
   Calls Tryz.prog 202 #[vecV V,vecV A] w fun e w'=>e=.returned (vecV (bzV V A))∧Below w.heap.size w w':=by
 have I0:BZ V A 0 w (((w.alloc (.cells (arr8 V) 35)).alloc (.cells (arr8 A) 35)).alloc (.cells (arr8 fun _=>0) 35)) :=
   ⟨by rw [← zvl];exact ((Own.new w _ _).alloc _).alloc _,Own.newAt _ _ _ (by simp),(((Below.refl _ _).alloc (Nat.le_refl _) _).alloc (by simp) _).alloc (by simp;omega) _⟩
 have HI0:=Lib.hid I0
 clear I0
 go_enter Tryz.func202,Tryz.ntmps202
 go_wp2_with fail
 go_loopw [8] (fun i wr=>z02 V A w i wr) (fun i _=>8 - (intOf i).toNat)
 case atStart=>exact ⟨0,by omega,rfl,HI0⟩
 case round =>
   clear HI0
   obtain ⟨k,hk,rfl,HP⟩:=hrel
   by_cases hlt:k < 8
   · have ix:=fun w=>idx8 A hlt w
     have ca:=(HP.out.o1.cell k).trans (zca (bz8 V A k) hlt)
     rw [show bz8 V A k k=V k by unfold bz8;rw [if_neg (by omega)]] at ca
     have fa:=HP.out.o1.free k
     have z1:=HP.out.o1.lt
     have k0:(0:Int)≤(k:Int):=by omega
     have k1:(k:Int) < 8:=by omega
     by_cases h:V k≤A k
     · have g:decide (V k≤A k)=true:=decide_eq_true h
       have HR:Hid (BZ V A (k + 1) w (wr.setCell ⟨w.heap.size,k,none⟩ (.int .i64 0))):=Lib.hid (by
         refine ⟨?_,HP.out.o3.setFar _ _ (by show w.heap.size + 1 + 1 ≠ w.heap.size;omega),HP.out.bel.setCell (p:=⟨w.heap.size,k,none⟩) (Nat.le_refl _) _⟩
         rw [← zyg V A (v:=0) (by unfold bzV;rw [if_pos h]),← zd6 _ hlt]
         exact HP.out.o1.set k _)
       go_wp2_with fail
       go_roundw
       case rel=>exact ⟨k + 1,by omega,by go_num,HR⟩
       case measure=>simp [intOf];omega
     · have g:decide (V k≤A k)=false:=decide_eq_false h
       have HR:Hid (BZ V A (k + 1) w wr):=Lib.hid ⟨by rw [← zvk V A (by unfold bzV;rw [if_neg h])];exact HP.out.o1,HP.out.o3,HP.out.bel⟩
       go_wp2_with fail
       go_roundw
       case rel=>exact ⟨k + 1,by omega,by go_num,HR⟩
       case measure=>simp [intOf];omega
   · have e:k=8:=by omega
     subst e
     have o1:=HP.out.o1
     rw [zs4] at o1
     have l3:=HP.out.o3.cell
     have f3:=HP.out.o3.free
     have z3:=HP.out.o3.lt
     have l4:=o1.cell
     have z4:=o1.lt
     have BEL:=Lib.hid HP.out.bel
     go_wp2_with fail
     have key:=And.intro (zbr HP.out.o3 (.int .i64 ((bzV V A) 0)) (.int .i64 ((bzV V A) 1)) (.int .i64 ((bzV V A) 2)) (.int .i64 ((bzV V A) 3)) (.int .i64 ((bzV V A) 4)) (.int .i64 ((bzV V A) 5)) (.int .i64 ((bzV V A) 6)) (.int .i64 ((bzV V A) 7))) (za5 (b:=w.heap.size + 1 + 1) BEL.out (by omega) (.int .i64 ((bzV V A) 0)) (.int .i64 ((bzV V A) 1)) (.int .i64 ((bzV V A) 2)) (.int .i64 ((bzV V A) 3)) (.int .i64 ((bzV V A) 4)) (.int .i64 ((bzV V A) 5)) (.int .i64 ((bzV V A) 6)) (.int .i64 ((bzV V A) 7)))
     clear l3 f3 z3 l4 z4
     unfold st8 at key
     revert key
     generalize World.setCell (World.setCell (World.setCell (World.setCell (World.setCell (World.setCell (World.setCell (World.setCell _ _ _) _ _) _ _) _ _) _ _) _ _) _ _) _ _=WW
     rintro ⟨of,bf⟩
     have lf:=of.cell
     refine bodyPost_ret (v:=vecV ((bzV V A))) (by simp [results,Tryz.results202,go_sem,lf]) rfl ⟨rfl,bf⟩
end Go.Proofs.YtodfhabkdaiopaaGreat
namespace Go.Proofs.YtodfhabkdaiopaaGreat
set_option linter.unusedVariables false
set_option linter.unusedSimpArgs false
set_option maxRecDepth 100000
set_option maxHeartbeats 8000000
open Go.RowKit Go.Maps Go.Sort Go.Shelf
def zmm:Go.Shelf.Ren:=⟨fun | 7=>201 | 10=>234 | n=>n,
 fun | 23=>230 | 26=>9 | 3=>35 | 28=>235 | 0=>0 | 27=>234 | 33=>150 | 4=>4 | n=>n,
 fun | n=>n⟩
theorem zxz:Go.Proofs.SlLaysZ.n7 Tryz.prog zmm:={
 mixed:=by kernel_rfl,
 f7:=⟨Tryz.f201.name,by decide,Tryz.func201.trans (congrArg some (by kernel_rfl))⟩,
 f10:=⟨Tryz.f234.name,by decide,Tryz.func234.trans (congrArg some (by kernel_rfl))⟩,
 t0:=Tryz.underlying0,
 a0:=Tryz.isAgg0,
 z0:=Tryz.sizeOf0,
 v0:=Tryz.zeroValue0,
 t4:=Tryz.underlying4,
 a4:=Tryz.isAgg4,
 z4:=Tryz.sizeOf4,
 v4:=Tryz.zeroValue4,
 t23:=Tryz.underlying230,
 a23:=Tryz.isAgg230,
 z23:=Tryz.sizeOf230,
 v23:=Tryz.zeroValue230,
 t26:=Tryz.underlying9,
 a26:=Tryz.isAgg9,
 z26:=Tryz.sizeOf9,
 v26:=Tryz.zeroValue9,
 t27:=Tryz.underlying234,
 a27:=Tryz.isAgg234,
 z27:=Tryz.sizeOf234,
 v27:=Tryz.zeroValue234,
 t28:=Tryz.underlying235,
 a28:=Tryz.isAgg235,
 z28:=Tryz.sizeOf235,
 v28:=Tryz.zeroValue235,
 t33:=Tryz.underlying150,
 a33:=Tryz.isAgg150,
 z33:=Tryz.sizeOf150,
 v33:=Tryz.zeroValue150 }
def zjj:Go.Shelf.Ren:=⟨fun | 6=>200 | 8=>232 | 9=>233 | 11=>243 | 13=>245 | 12=>244 | 23=>262 | 24=>263 | 14=>253 | 15=>254 | 16=>255 | 17=>256 | 18=>257 | 19=>258 | 20=>259 | 21=>260 | 22=>261 | 25=>269 | 26=>270 | 27=>271 | 28=>272 | 29=>273 | 30=>191 | 31=>274 | n=>n,
 fun | 26=>9 | 28=>235 | 24=>160 | 0=>0 | 3=>3 | 37=>248 | 48=>270 | 50=>272 | 4=>4 | 40=>264 | 39=>263 | 45=>185 | 5=>5 | 9=>9 | 51=>276 | 55=>280 | 57=>282 | 58=>190 | 33=>150 | n=>n,
 fun | n=>n⟩
theorem zza:Go.Proofs.SlLaysZ.n6 Tryz.prog zjj:={
 mixed:=by kernel_rfl,
 f6:=⟨Tryz.f200.name,by decide,Tryz.func200.trans (congrArg some (by kernel_rfl))⟩,
 f8:=⟨Tryz.f232.name,by decide,Tryz.func232.trans (congrArg some (by kernel_rfl))⟩,
 f11:=⟨Tryz.f243.name,by decide,Tryz.func243.trans (congrArg some (by kernel_rfl))⟩,
 t0:=Tryz.underlying0,
 a0:=Tryz.isAgg0,
 z0:=Tryz.sizeOf0,
 v0:=Tryz.zeroValue0,
 t24:=Tryz.underlying160,
 a24:=Tryz.isAgg160,
 z24:=Tryz.sizeOf160,
 v24:=Tryz.zeroValue160,
 t26:=Tryz.underlying9,
 a26:=Tryz.isAgg9,
 z26:=Tryz.sizeOf9,
 v26:=Tryz.zeroValue9,
 t28:=Tryz.underlying235,
 a28:=Tryz.isAgg235,
 z28:=Tryz.sizeOf235,
 v28:=Tryz.zeroValue235,
 i26:=by kernel_rfl }
def zu2:Go.Shelf.Ren:=⟨fun | 6=>233 | 8=>245 | 9=>244 | 19=>262 | 20=>263 | 21=>253 | 22=>254 | 23=>255 | 24=>256 | 25=>257 | 26=>258 | 27=>259 | 28=>260 | 29=>261 | 36=>269 | 31=>270 | 32=>271 | 37=>272 | 38=>273 | 39=>191 | 41=>274 | n=>n,
 fun | 27=>160 | 29=>9 | 3=>3 | 32=>248 | 26=>160 | 0=>0 | 44=>270 | 46=>272 | 4=>4 | 36=>264 | 35=>263 | 41=>185 | 5=>5 | 9=>9 | 53=>276 | 57=>280 | 63=>282 | 64=>190 | n=>n,
 fun | n=>n⟩
theorem zx1:Go.Proofs.SlLaysM.n6 Tryz.prog zu2:={
 mixed:=by kernel_rfl,
 f6:=⟨Tryz.f233.name,by decide,Tryz.func233.trans (congrArg some (by kernel_rfl))⟩,
 f8:=Tryz.func245.trans (congrArg some (by kernel_rfl)),
 f9:=⟨Tryz.f244.name,by decide,Tryz.func244.trans (congrArg some (by kernel_rfl))⟩,
 f19:=Tryz.func262.trans (congrArg some (by kernel_rfl)),
 f20:=Tryz.func263.trans (congrArg some (by kernel_rfl)),
 f21:=⟨Tryz.f253.name,by decide,Tryz.func253.trans (congrArg some (by kernel_rfl))⟩,
 f22:=⟨Tryz.f254.name,by decide,Tryz.func254.trans (congrArg some (by kernel_rfl))⟩,
 f23:=⟨Tryz.f255.name,by decide,Tryz.func255.trans (congrArg some (by kernel_rfl))⟩,
 f24:=⟨Tryz.f256.name,by decide,Tryz.func256.trans (congrArg some (by kernel_rfl))⟩,
 f25:=⟨Tryz.f257.name,by decide,Tryz.func257.trans (congrArg some (by kernel_rfl))⟩,
 f26:=⟨Tryz.f258.name,by decide,Tryz.func258.trans (congrArg some (by kernel_rfl))⟩,
 f27:=⟨Tryz.f259.name,by decide,Tryz.func259.trans (congrArg some (by kernel_rfl))⟩,
 f28:=⟨Tryz.f260.name,by decide,Tryz.func260.trans (congrArg some (by kernel_rfl))⟩,
 f29:=⟨Tryz.f261.name,by decide,Tryz.func261.trans (congrArg some (by kernel_rfl))⟩,
 f31:=Tryz.func270.trans (congrArg some (by kernel_rfl)),
 f32:=Tryz.func271.trans (congrArg some (by kernel_rfl)),
 f36:=⟨Tryz.f269.name,by decide,Tryz.func269.trans (congrArg some (by kernel_rfl))⟩,
 f37:=⟨Tryz.f272.name,by decide,Tryz.func272.trans (congrArg some (by kernel_rfl))⟩,
 f38:=⟨Tryz.f273.name,by decide,Tryz.func273.trans (congrArg some (by kernel_rfl))⟩,
 f39:=⟨Tryz.f191.name,by decide,Tryz.func191.trans (congrArg some (by kernel_rfl))⟩,
 f41:=⟨Tryz.f274.name,by decide,Tryz.func274.trans (congrArg some (by kernel_rfl))⟩,
 t0:=Tryz.underlying0,
 a0:=Tryz.isAgg0,
 z0:=Tryz.sizeOf0,
 v0:=Tryz.zeroValue0,
 t3:=Tryz.underlying3,
 a3:=Tryz.isAgg3,
 z3:=Tryz.sizeOf3,
 v3:=Tryz.zeroValue3,
 t4:=Tryz.underlying4,
 a4:=Tryz.isAgg4,
 z4:=Tryz.sizeOf4,
 v4:=Tryz.zeroValue4,
 t5:=Tryz.underlying5,
 a5:=Tryz.isAgg5,
 z5:=Tryz.sizeOf5,
 v5:=Tryz.zeroValue5,
 t9:=Tryz.underlying9,
 a9:=Tryz.isAgg9,
 z9:=Tryz.sizeOf9,
 v9:=Tryz.zeroValue9,
 t26:=Tryz.underlying160,
 a26:=Tryz.isAgg160,
 z26:=Tryz.sizeOf160,
 v26:=Tryz.zeroValue160,
 t27:=Tryz.underlying160,
 a27:=Tryz.isAgg160,
 z27:=Tryz.sizeOf160,
 v27:=Tryz.zeroValue160,
 t29:=Tryz.underlying9,
 a29:=Tryz.isAgg9,
 z29:=Tryz.sizeOf9,
 v29:=Tryz.zeroValue9,
 t32:=Tryz.underlying248,
 a32:=Tryz.isAgg248,
 z32:=Tryz.sizeOf248,
 v32:=Tryz.zeroValue248,
 t35:=Tryz.underlying263,
 a35:=Tryz.isAgg263,
 z35:=Tryz.sizeOf263,
 v35:=Tryz.zeroValue263,
 t36:=Tryz.underlying264,
 a36:=Tryz.isAgg264,
 z36:=Tryz.sizeOf264,
 v36:=Tryz.zeroValue264,
 t41:=Tryz.underlying185,
 a41:=Tryz.isAgg185,
 z41:=Tryz.sizeOf185,
 v41:=Tryz.zeroValue185,
 t44:=Tryz.underlying270,
 a44:=Tryz.isAgg270,
 z44:=Tryz.sizeOf270,
 v44:=Tryz.zeroValue270,
 t46:=Tryz.underlying272,
 a46:=Tryz.isAgg272,
 z46:=Tryz.sizeOf272,
 v46:=Tryz.zeroValue272,
 t53:=Tryz.underlying276,
 a53:=Tryz.isAgg276,
 z53:=Tryz.sizeOf276,
 v53:=Tryz.zeroValue276,
 t57:=Tryz.underlying280,
 a57:=Tryz.isAgg280,
 z57:=Tryz.sizeOf280,
 v57:=Tryz.zeroValue280,
 t63:=Tryz.underlying282,
 a63:=Tryz.isAgg282,
 z63:=Tryz.sizeOf282,
 v63:=Tryz.zeroValue282,
 t64:=Tryz.underlying190,
 a64:=Tryz.isAgg190,
 z64:=Tryz.sizeOf190,
 v64:=Tryz.zeroValue190 }
theorem z0r (m:Nat):AnyZ.SortsIn Tryz.prog zjj Fence.wide m :=
 ⟨fun blk off cap ss W hH hblk hsz=>callsIn_wide.2 (AnyM.slices_Sort_string zx1 blk off cap ss W hH hblk hsz),
  fun p cap W=>callsIn_wide.2 (AnyM.slices_Sort_string_none zx1 p cap W)⟩
theorem zrw (mb:Option Nat) (W:World):Calls Tryz.prog 201 #[.map mb] W fun e w'=>e=.returned (.func (.func 234) #[] #[.pointer (some ⟨W.heap.size,0,none⟩)])∧w'=W.alloc (.cells #[.map mb] 230) :=
 callsIn_wide.1 (AnyZ.keys_in zxz Fence.wide 5 trivial rfl mb W)
theorem zsj {H:Type} (b nn:Nat) (D0:DataW H) (R:Value→Option (DataW H × List MemPlace)) (w:World) (hown:w.ownsMap Tryz.prog 9 R b nn D0) (hmax:Maps.size D0≤maxLen) (hbytes:Maps.size D0 * 16≤140737488355328) :
   Calls Tryz.prog 200 #[.func (.func 234) #[] #[.pointer (some ⟨w.heap.size,0,none⟩)]] (w.alloc (.cells #[.map (some b)] 230)) fun e w'=>∃ (v:Value) (ss:List (List UInt8)),e=.returned v∧ss.Perm (strKeys D0) ∧
     w'.ownsRow (w.alloc (.cells #[.map (some b)] 230)).heap.size 9 1 v ss.length ((ss.mergeSort (fun x y=>decide (x≤y))).map encStr)∧(v=.slice none 0 0 ↔ ss=[])∧Below (w.alloc (.cells #[.map (some b)] 230)).heap.size (w.alloc (.cells #[.map (some b)] 230)) w':=by
 have hbl:=hown.lt
 have hseq:SeqGives Fence.wide 2 Tryz.prog 234 #[.pointer (some ⟨w.heap.size,0,none⟩)] encStr (fun ss=>ss.Perm (strKeys D0)) (Maps.size D0) (w.alloc (.cells #[.map (some b)] 230)) :=
   AnyZ.keys_gives (ρ:=zmm) { zxz with } Fence.wide _ trivial rfl (by omega) w.heap.size b nn D0 _ (by simp) (by simp) (by
     obtain ⟨es,clock,hb,Ft,hs,hD⟩:=hown
     exact ⟨es,clock,(Below.heap_alloc _ _ b hbl).trans hb,Ft,hs,hD⟩)
 exact callsIn_wide.1 (AnyZ.sorted_in zza Fence.wide 5 trivial trivial trivial trivial rfl (by omega) (z0r _) (enters_of Tryz.func233 (by kernel_rfl) rfl) 234 #[.pointer (some ⟨w.heap.size,0,none⟩)] trivial (enters_of Tryz.func234 (by kernel_rfl) rfl) _ _ hmax hbytes _ hseq)
theorem zi4 (s:ByteArray):s.toList=s.data.toList:=ByteArray.toList_eq s
theorem zp8 {ns:List ByteArray} (h:Rise ns):(ns.map fun s=>s.data.toList).Pairwise (fun a b=>(decide (a≤b))=true):=by
 refine List.pairwise_map.2 (List.Pairwise.imp (fun {a b} hab=>?_) h)
 unfold lsB at hab
 rw [Go.Proofs.bytesLess_eq,zi4,zi4] at hab
 rw [decide_eq_true_eq] at *
 exact List.le_of_lt hab
theorem zsd {ns:List ByteArray} (h:Rise ns):(ns.map fun s=>s.data.toList).Nodup:=by
 refine List.pairwise_map.2 (List.Pairwise.imp (fun {a b} hab e=>?_) h)
 exact zfd hab (zio (by rw [zi4,zi4];exact e))
theorem zr6 {H:Type} {D:DataW H} {ns:List ByteArray} (hr:Rise ns) (ht:Tidy D) (hk:∃ es,D=.map es∧∀ p∈es,KeysOf Tryz.prog 9 p.1) (hm:∀ s:ByteArray,Maps.has D (.string s.data.toList)=true ↔ s∈ns):(ns.map fun s=>s.data.toList).Perm (strKeys D):=by
 obtain ⟨es,rfl,hp⟩:=ht
 obtain ⟨es',e,hk⟩:=hk
 cases e
 refine perm_strKeys hp (fun p hp'=>?_) (zsd hr) fun x=>?_
 · obtain ⟨v,hv⟩:=hk p hp'
   obtain ⟨x,_,hx,_⟩:=Maps.keyOf_str Tryz.underlying9 hv
   exact ⟨x,hx⟩
 · have h:=hm ⟨x.toArray⟩
   simp only [] at h
   rw [h,List.mem_map]
   constructor
   · rintro ⟨s,hs,rfl⟩
     exact hs
   · intro hs
     exact ⟨_,hs,rfl⟩
theorem zpd {H:Type} (b nn:Nat) (D0:DataW H) (R:Value→Option (DataW H × List MemPlace)) (w:World) (hown:w.ownsMap Tryz.prog 9 R b nn D0) (ns:List ByteArray) (hr:Rise ns) (hm:∀ s:ByteArray,Maps.has D0 (.string s.data.toList)=true ↔ s∈ns) (hlen:ns.length≤10000) :
   Calls Tryz.prog 200 #[.func (.func 234) #[] #[.pointer (some ⟨w.heap.size,0,none⟩)]] (w.alloc (.cells #[.map (some b)] 230)) fun e w'=>∃ (v:Value),e=.returned v ∧
     OwnT w' (w.heap.size + 1) ns v∧Below (w.heap.size + 1) (w.alloc (.cells #[.map (some b)] 230)) w':=by
 have hp:=zr6 hr (hown.tidy (string_keyed Tryz.underlying9)) hown.keysOf hm
 have hsz:Maps.size D0=ns.length:=by
   obtain ⟨es,rfl,_⟩:=hown.keysOf
   have h1:=hp.length_eq
   simp only [strKeys,List.length_map] at h1
   rw [Maps.size_eq];exact h1.symm
 refine (zsj b nn D0 R w hown (by unfold maxLen;omega) (by omega)).mono ?_
 rintro e w' ⟨v,ss,rfl,hs,hrow,_,hb⟩
 have e1:(w.alloc (.cells #[.map (some b)] 230)).heap.size=w.heap.size + 1:=by simp
 rw [e1] at hrow hb
 refine ⟨v,rfl,?_,hb⟩
 have e2:ss.length=ns.length:=by rw [hs.length_eq,← hp.length_eq,List.length_map]
 have e3:ss.mergeSort (fun x y=>decide (x≤y))=ns.map fun s=>s.data.toList:=by
   rw [show (ss.mergeSort fun x y=>decide (x≤y))=_ from mergeSort_of_perm (hs.trans hp.symm)]
   exact List.mergeSort_of_pairwise (zp8 hr)
 have e4:(ns.map fun s=>s.data.toList).map encStr=txC ns:=by
   rw [List.map_map]
   unfold txC
   refine List.map_congr_left fun s _=>?_
   simp [encStr]
 unfold OwnT
 rw [e2,e3,e4] at hrow
 exact hrow
theorem z1p (mb:Option Nat) (W:World) (B:Nat) (hB:W.heap.size=B):Calls Tryz.prog 201 #[.map mb] W fun e w'=>e=.returned (.func (.func 234) #[] #[.pointer (some ⟨B,0,none⟩)])∧w'=W.alloc (.cells #[.map mb] 230):=by
 subst hB
 exact zrw mb W
theorem zzb {w:World} {b nn:Nat} {ids:List ByteArray} {raw:ByteArray→Nat→Int} (h:Cnt w b nn ids raw) (ns:List ByteArray) (hr:Rise ns) (hm:∀ s:ByteArray,s∈ids ↔ s∈ns) (hlen:ns.length≤10000) (B:Nat) (hB:w.heap.size=B) :
   Calls Tryz.prog 200 #[.func (.func 234) #[] #[.pointer (some ⟨B,0,none⟩)]] (w.alloc (.cells #[.map (some b)] 230)) fun e w'=>∃ (v:Value),e=.returned v ∧
     OwnT w' (B + 1) ns v∧Below (B + 1) (w.alloc (.cells #[.map (some b)] 230)) w':=by
 subst hB
 obtain ⟨D,ho,_,hh⟩:=h
 exact zpd b nn D zru w ho ns hr (fun s=>(hh s).trans (hm s)) hlen
end Go.Proofs.YtodfhabkdaiopaaGreat
