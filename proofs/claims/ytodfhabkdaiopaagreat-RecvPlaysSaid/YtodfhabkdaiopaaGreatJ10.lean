/- Joined: ItemEq, PlainM, RefNames, RefBey. -/
import Derived.Test.YtodfhabkdaiopaaGreatJ08
import Derived.Laws.StructEq
import Derived.Laws.Cover2
import Derived.Test.YtodfhabkdaiopaaGreatJ09
import Derived.Test.YtodfhabkdaiopaaGreatJ02
namespace Go.Proofs.YtodfhabkdaiopaaGreat
set_option linter.unusedVariables false
set_option linter.unusedSimpArgs false
set_option maxRecDepth 100000
set_option maxHeartbeats 8000000
open Go.RowKit
theorem y10h {p:Prop} (h:p):Go.RowKit.Hid p:=Lib.hid h
def eqT (a b:Itm):Bool:=(a.id.toList == b.id.toList) && ((a.r == b.r && a.c == b.c) && ((a.st == b.st) && ((a.kd.toList == b.kd.toList) && ((a.num == b.num) && ((feq a.x b.x && feq a.y b.y) && (a.d == b.d))))))
theorem zvt {a:Itm} (hx:feq a.x a.x=true) (hy:feq a.y a.y=true):eqT a a=true:=by
 unfold eqT;simp [hx,hy]
end Go.Proofs.YtodfhabkdaiopaaGreat
namespace Go.Proofs.YtodfhabkdaiopaaGreat
set_option linter.unusedVariables false
set_option linter.unusedSimpArgs false
set_option maxRecDepth 100000
set_option maxHeartbeats 8000000
namespace Pr
def leaf (op:Int):Pr:=node op ⟨#[]⟩ 0 0 0 []
def flat (op:Int):List Pr→List Pr
 | []=>[]
 | k :: l=>(if k.op=op then k.kids else [k]) ++ flat op l
def z1t (l:List Pr) (a:Pr):Bool:=l.any fun b=>same b a
def zol (no:Int):List Pr→List Pr→List Pr
 | _,[]=>[]
 | pre,a :: l=>(if z1t pre a=true ∨ a.op=no then [] else [a]) ++ zol no (pre ++ [a]) l
def keep (no:Int) (l:List Pr):List Pr:=zol no [] l
def noOf (op:Int):Int:=if op=9 then 2 else 1
def z1o (o:Int) (l:List Pr):Bool:=l.any fun b=>decide (b.op=o)
def z1r (op:Int) (t:ByteArray) (n:Int) (x y:Nat):List Pr→Pr
 | []=>leaf (noOf op)
 | [a]=>a
 | l=>node op t n x y l
def glue (op:Int) (t:ByteArray) (n:Int) (x y:Nat) (ks:List Pr):Pr :=
 if z1o (3 - noOf op) (flat op ks)=true then leaf (3 - noOf op) else z1r op t n x y (keep (noOf op) (flat op ks))
def turn (t:ByteArray) (n:Int) (x y:Nat):List Pr→Pr
 | [k]=>if k.op=1 ∨ k.op=2 then leaf (3 - k.op) else if k.op=10 then k.kids.headD (leaf 0) else node 10 t n x y [k]
 | _=>node 10 t n x y []
def z0a (op:Int) (t:ByteArray) (n:Int) (x y:Nat) (ks:List Pr):Pr :=
 if op=10 then turn t n x y ks else if op=8 ∨ op=9 then glue op t n x y ks else node op t n x y []
mutual
def plain:Pr→Pr | node op t n x y k=>z0a op t n x y (zum k)
def zum:List Pr→List Pr | []=>[] | k :: l=>plain k :: zum l
end
end Pr
end Go.Proofs.YtodfhabkdaiopaaGreat
namespace Go.Proofs.YtodfhabkdaiopaaGreat
set_option linter.unusedVariables false
set_option linter.unusedSimpArgs false
set_option maxRecDepth 100000
set_option maxHeartbeats 8000000
open Go.RowKit
def zxu (F:Nat→List ByteArray) (len:Nat) (X:Array Value) (w:World) (lv iv:Value) (wr:World):Prop :=
 ∃ (k:Nat) (sv:Value),k≤len∧iv=.int .i64 k∧sv=lv∧Hid (OwnT wr w.heap.size (zbu (F k)) sv)∧Hid (Has wr w.heap.size X)∧Hid (Below w.heap.size w wr)
theorem zme {l:List Fr} {k:Nat} {f:Fr} (h:l[k]?=some f):zaf (l.take (k + 1))=zaf (l.take k) ++ f.ids:=by
 unfold zaf;rw [zej h,List.flatMap_append];simp
theorem zm8 {l:List Fr} {k:Nat} {s:ByteArray} (h:s∈zaf (l.take k)):s∈zaf l:=by
 unfold zaf at *
 rw [List.mem_flatMap] at *
 obtain ⟨f,hf,hs⟩:=h
 exact ⟨f,List.mem_of_mem_take hf,hs⟩
theorem zvx {l:List Fr} {k:Nat}:(zaf (l.take k)).length≤(zaf l).length:=by
 have h:zaf l=zaf (l.take k) ++ zaf (l.drop k):=by unfold zaf;rw [← List.flatMap_append,List.take_append_drop]
 rw [h,List.length_append];omega
theorem fr_ok {w:World} {l:List Fr} {U:Nat→Value} {oa:Option Addr} {cap b o:Nat} (h:FrAt w l U oa cap b o):∀ s∈zaf l,s.size≤maxLen:=by
 intro s hs
 unfold zaf at hs
 rw [List.mem_flatMap] at hs
 obtain ⟨f,hf,hs⟩:=hs
 obtain ⟨k,hk,e⟩:=List.mem_iff_getElem.1 hf
 exact (h.ids k f (by rw [List.getElem?_eq_getElem hk,e])).ok s hs
theorem zp6 (l:List Fr) (A:Nat→Int) (v:Value) (w:World) (hR:FrW w l v) (hlen:(zaf l).length≤10000) :
   Calls Tryz.prog 205 #[knV A v] w fun e w'=>∃ v',e=.returned v'∧OwnT w' w.heap.size (zbu (zaf l)) v'∧Below w.heap.size w w':=by
 obtain ⟨U,oa,cap,b,o,rfl,hr⟩:=hR
 have HR:=y10h hr
 have HOK:=y10h (fr_ok hr)
 have hcap:=hr.len
 have hmax:=hr.max
 unfold maxLen at hmax
 clear hr
 have HFL:=y10h hlen
 clear hlen
 generalize hn:l.length=len at *
 have HN:=y10h hn
 clear hn
 go_enter Tryz.func205,Tryz.ntmps205
 go_wp2_with fail
 go_loopw [3,4] (fun lv iv wr=>zxu (fun k=>zaf (l.take k)) len (knA A (.slice oa len cap)) w lv iv wr) (fun _ iv _=>len - (intOf iv).toNat)
 case atStart=>exact ⟨0,_,Nat.zero_le _,rfl,rfl,by unfold Hid;exact OwnT.nil _ _,by unfold Hid;exact Has.new _ _ _,by unfold Hid;exact (Below.refl _ _).alloc (Nat.le_refl _) _⟩
 case round =>
   obtain ⟨k,sv,hk,rfl,rfl,HO,HX,HB⟩:=hrel
   replace HO:=y10h (show OwnT wr w.heap.size (zbu (zaf (l.take k))) sv from HO.out)
   have l1:=HX.out.cell
   have z1:=HX.out.lt
   by_cases hlt:k < len
   · obtain ⟨f,hf⟩:∃ f,l[k]?=some f:=⟨_,List.getElem?_eq_getElem (by rw [HN.out];exact hlt)⟩
     obtain ⟨rfl,hb0⟩:=HR.out.at0 (by rw [HN.out];omega)
     obtain ⟨ou,cu,bu,oo,hu,ht⟩:=HR.out.ids k f hf
     obtain ⟨c0,_⟩:=zb6 (w:=wr) (fun j z hz=>(HB.out.cell (p:=⟨b,o + k * 9 + j,none⟩) hb0).trans (HR.out.cell k f hf j z hz))
     rw [hu] at c0
     have hcu:=ht.len
     have hmu:=ht.max
     unfold maxLen at hmu
     have HT:=y10h ht
     have HF:=y10h hf
     have HU:=y10h hu
     clear ht hf hu
     generalize hn2:f.ids.length=nf at *
     have HNF:=y10h hn2
     clear hn2
     have zb:=Nat.lt_of_lt_of_le hb0 HB.out.size
     go_wp2_with fail
     clear l1 z1 c0 zb
     go_loopw [3,5] (fun lv iv wr=>zxu (fun j=>zaf (l.take k) ++ f.ids.take j) nf (knA A (.slice (some ⟨b,o,none⟩) len cap)) w lv iv wr) (fun _ iv _=>nf - (intOf iv).toNat)
     case atStart=>exact ⟨0,_,Nat.zero_le _,rfl,rfl,by unfold Hid;simp only [List.take_zero,List.append_nil];exact HO.out,HX,HB⟩
     case round =>
       clear HO HX HB
       obtain ⟨j,sv,hj,rfl,rfl,HO,HX,HB⟩:=hrel
       replace HO:=y10h (show OwnT wr w.heap.size (zbu (zaf (l.take k) ++ f.ids.take j)) sv from HO.out)
       have l1:=HX.out.cell
       have z1:=HX.out.lt
       obtain ⟨c0,_⟩:=zb6 (w:=wr) (fun j z hz=>(HB.out.cell (p:=⟨b,o + k * 9 + j,none⟩) hb0).trans (HR.out.cell k f HF.out j z hz))
       rw [HU.out] at c0
       have zb:=Nat.lt_of_lt_of_le hb0 HB.out.size
       by_cases hjt:j < nf
       · obtain ⟨s,hs⟩:∃ s,f.ids[j]?=some s:=⟨_,List.getElem?_eq_getElem (by rw [HNF.out];exact hjt)⟩
         obtain ⟨rfl,hb1⟩:=HT.out.at0 (by rw [HNF.out];omega)
         have d0:=(HB.out.cell (p:=⟨bu,oo + j,none⟩) hb1).trans (HT.out.cell j s hs)
         have zu:=Nat.lt_of_lt_of_le hb1 HB.out.size
         have hsub:∀ x∈zaf (l.take k) ++ f.ids.take j,x∈zaf l:=by
           intro x hx
           rcases List.mem_append.1 hx with hx | hx
           · exact zm8 hx
           · unfold zaf;rw [List.mem_flatMap];exact ⟨f,List.mem_of_getElem? HF.out,List.mem_of_mem_take hx⟩
         have hle:(zbu (zaf (l.take k) ++ f.ids.take j)).length≤10000:=by
           have h1:=ziu (zaf (l.take k) ++ f.ids.take j)
           have h2:=zvx (l:=l) (k:=k + 1)
           rw [zme HF.out] at h2
           have h3:=HFL.out
           simp only [List.length_append,List.length_take] at h1 h2
           omega
         have C:=y10h (zoh _ s sv wr (HO.out.tx fun x hx=>HOK.out x (hsub x (mem_all.1 hx))) hle)
         have HS:=y10h (show zbu (zaf (l.take k) ++ f.ids.take (j + 1))=insB (zbu (zaf (l.take k) ++ f.ids.take j)) s by rw [zej hs,← List.append_assoc,zp0])
         clear hs hsub hle
         go_wp2_with (go_at_call 235;refine C.out.mono ?_;rintro e w2 ⟨v2,rfl,ho2,hb2⟩)
         have HO2:=y10h (ho2.mono (base':=w.heap.size) HB.out.size)
         have HX2:=y10h (HX.out.below hb2 HX.out.lt)
         have HB2:=y10h (HB.out.trans (hb2.mono HB.out.size))
         clear ho2 hb2
         go_roundw
         case rel=>exact ⟨j + 1,_,by omega,by go_num,rfl,y10h (by show OwnT _ _ (zbu (zaf (l.take k) ++ f.ids.take (j + 1))) _;rw [HS.out];exact HO2.out),HX2,HB2⟩
         case measure=>simp [intOf];omega
       · have e:nf=j:=by omega
         have h1:=HO.out
         rw [show f.ids.take j=f.ids from List.take_of_length_le (by rw [HNF.out];omega),← zme HF.out] at h1
         have HO:=y10h h1
         clear h1
         go_wp2_with fail
         go_roundw
         case rel=>exact ⟨k + 1,_,by omega,by go_num,rfl,HO,HX,HB⟩
         case measure=>simp [intOf];omega
   · have e:len=k:=by omega
     have h1:=HO.out
     rw [List.take_of_length_le (by rw [HN.out];omega)] at h1
     have HO:=y10h h1
     clear h1
     go_wp2_with fail
     go_ret
     exact ⟨_,rfl,HO.out,HB.out⟩
structure BySt (w:World) (X Z V:Array Value) (wr:World):Prop where
 o1:Own wr w.heap.size X 38
 o2:Own wr (w.heap.size + 1) Z 35
 o3:Own wr (w.heap.size + 1 + 1) V 35
 bel:Below w.heap.size w wr
theorem BySt.later {w wr w':World} {X Z V:Array Value} (h:BySt w X Z V wr) (hb:Below wr.heap.size wr w'):BySt w X Z V w' :=
 ⟨h.o1.later hb,h.o2.later hb,h.o3.later hb,h.bel.trans (hb.mono h.bel.size)⟩
theorem BySt.put8 {w wr:World} {X Z:Array Value} {z0 z1 z2 z3 z4 z5 z6 z7:Value} (h:BySt w X Z #[z0,z1,z2,z3,z4,z5,z6,z7] wr) (c0 c1 c2 c3 c4 c5 c6 c7:Value):BySt w X Z #[c0,c1,c2,c3,c4,c5,c6,c7] (st8 wr (w.heap.size + 1 + 1) c0 c1 c2 c3 c4 c5 c6 c7):=by
 have hf:∀ {b:Nat} {c:Array Value} {t:TypeId},Own wr b c t→b ≠ w.heap.size + 1 + 1→Own (st8 wr (w.heap.size + 1 + 1) c0 c1 c2 c3 c4 c5 c6 c7) b c t:=by
   intro b c t ho hb
   unfold st8
   exact ((((((((ho.setFar _ _ hb).setFar _ _ hb).setFar _ _ hb).setFar _ _ hb).setFar _ _ hb).setFar _ _ hb).setFar _ _ hb).setFar _ _ hb)
 exact ⟨hf h.o1 (by omega),hf h.o2 (by omega),zbr h.o3 _ _ _ _ _ _ _ _,za5 h.bel (by omega) _ _ _ _ _ _ _ _⟩
theorem BySt.put1 {w wr:World} {X Z:Array Value} {V:Nat→Int} (h:BySt w X Z (arr8 V) wr) {k:Nat} (hk:k < 8) (v:Int):BySt w X Z (arr8 (fun j=>if j=k then v else V j)) (wr.setCell ⟨w.heap.size + 1 + 1,k,none⟩ (.int .i64 v)):=by
 refine ⟨h.o1.setFar _ _ (by show w.heap.size ≠ w.heap.size + 1 + 1;omega),h.o2.setFar _ _ (by show w.heap.size + 1 ≠ w.heap.size + 1 + 1;omega),?_,h.bel.setCell (by show w.heap.size≤w.heap.size + 1 + 1;omega) _⟩
 rw [← zd6 V hk v]
 exact h.o3.set k _
def mixV (B R:Nat→Int) (k:Nat) (j:Nat):Int:=if j < k then B j else R j
theorem zwf (B R:Nat→Int):arr8 R=arr8 (mixV B R 0):=zbj fun j _=>by unfold mixV;rw [if_neg (by omega)]
theorem zub (B R:Nat→Int):arr8 (mixV B R 8)=arr8 B:=zbj fun j h=>by unfold mixV;rw [if_pos h]
theorem zy3 (B R:Nat→Int) {k:Nat} {v:Int} (hv:v=B k):arr8 (fun j=>if j=k then v else mixV B R k j)=arr8 (mixV B R (k + 1)):=zbj fun j _=>by
 unfold mixV
 by_cases e:j=k
 · subst e;rw [if_pos rfl,if_pos (by omega)];exact hv
 · rw [if_neg e]
   by_cases h:j < k
   · rw [if_pos h,if_pos (by omega)]
   · rw [if_neg h,if_neg (by omega)]
theorem zwe (B R:Nat→Int) {k:Nat} (hv:R k=B k):arr8 (mixV B R k)=arr8 (mixV B R (k + 1)):=zbj fun j _=>by
 unfold mixV
 by_cases e:j=k
 · subst e;rw [if_neg (by omega),if_pos (by omega)];exact hv
 · by_cases h:j < k
   · rw [if_pos h,if_pos (by omega)]
   · rw [if_neg h,if_neg (by omega)]
theorem zwv {l:List Fr} {k:Nat} {f:Fr} {id:ByteArray} (h:l[k]?=some f):rawF (l.take (k + 1)) id=zcf id (rawF (l.take k) id) f:=by
 unfold rawF;rw [zej h,List.foldl_append];rfl
def zzm (l:List Fr) (id:ByteArray) (len:Nat) (X:Array Value) (w:World) (iv:Value) (wr:World):Prop :=
 ∃ k:Nat,k≤len∧iv=.int .i64 k∧Hid (BySt w X (arr8 zad) (arr8 (rawF (l.take k) id)) wr)
def zzn (B R:Nat→Int) (X:Array Value) (w:World) (iv:Value) (wr:World):Prop :=
 ∃ k:Nat,k≤8∧iv=.int .i64 k∧Hid (BySt w X (arr8 zad) (arr8 (mixV B R k)) wr)
theorem zlu (A:Nat→Int) (v:Value) {k:Nat} (h:k < 8):(knA A v)[k]?=some (.int .i64 (A k)):=by
 match k,h with
 | 0,_ | 1,_ | 2,_ | 3,_ | 4,_ | 5,_ | 6,_ | 7,_=>rfl
theorem znu (K:Kn) (id:ByteArray) (v:Value) (w:World) (hR:FrW w K.l v) :
   Calls Tryz.prog 206 #[knV K.star v,.string id] w fun e w'=>e=.returned (vecV (beyB K id))∧Below w.heap.size w w':=by
 obtain ⟨A,l⟩:=K
 obtain ⟨U,oa,cap,b,o,rfl,hr⟩:=hR
 simp only at hr ⊢
 have HR:=y10h hr
 have hcap:=hr.len
 have hmax:=hr.max
 unfold maxLen at hmax
 clear hr
 generalize hn:l.length=len at *
 have HN:=y10h hn
 clear hn
 have HBE:=y10h (show ∀ j,j < 8→beyB ⟨A,l⟩ id j=if rawF l id j≤A j then 0 else rawF l id j from fun j hj=>by unfold beyB;rw [if_pos hj])
 generalize beyB ⟨A,l⟩ id=B at *
 have I0:BySt w (knA A (.slice oa len cap)) (arr8 zad) (arr8 (rawF (l.take 0) id)) (((w.alloc (.cells (knA A (.slice oa len cap)) 38)).alloc (.cells (arr8 zad) 35)).alloc (.cells (arr8 zad) 35)) :=
   ⟨((Own.new w _ _).alloc _).alloc _,(Own.newAt _ _ _ (by simp)).alloc _,Own.newAt _ _ _ (by simp),(((Below.refl _ _).alloc (Nat.le_refl _) _).alloc (by simp) _).alloc (by simp;omega) _⟩
 have HI0:=y10h I0
 clear I0
 go_enter Tryz.func206,Tryz.ntmps206
 go_wp2_with fail
 go_loopw [6] (fun iv wr=>zzm l id len (knA A (.slice oa len cap)) w iv wr) (fun iv _=>len - (intOf iv).toNat)
 case atStart=>exact ⟨0,Nat.zero_le _,rfl,HI0⟩
 case round =>
   clear HI0
   obtain ⟨k,hk,rfl,HP⟩:=hrel
   have l1:=HP.out.o1.cell
   have z1:=HP.out.o1.lt
   by_cases hlt:k < len
   · obtain ⟨f,hf⟩:∃ f,l[k]?=some f:=⟨_,List.getElem?_eq_getElem (by rw [HN.out];exact hlt)⟩
     obtain ⟨rfl,hb0⟩:=HR.out.at0 (by rw [HN.out];omega)
     obtain ⟨c0,c1,c2,c3,c4,c5,c6,c7,c8⟩:=zb6 (w:=wr) (fun j z hz=>(HP.out.bel.cell (p:=⟨b,o + k * 9 + j,none⟩) hb0).trans (HR.out.cell k f hf j z hz))
     have htx:=(HR.out.ids k f hf).later HP.out.bel (Nat.le_refl _)
     obtain ⟨ou,cu,hu⟩:=htx.val
     rw [hu] at c0 htx
     have C:=y10h (zjd f.ids id _ wr htx)
     have zb:=Nat.lt_of_lt_of_le hb0 HP.out.bel.size
     have HF:=y10h (zwv (id:=id) hf)
     have l3:=HP.out.o3.cell
     have z3:=HP.out.o3.lt
     have k0:(0:Int)≤(k:Int):=by omega
     have k1:(k:Int) < (len:Int):=by omega
     clear htx hu hf
     cases ham:za6 f.ids id
     · rw [ham] at C
       have HS:=y10h (show rawF (l.take (k + 1)) id=rawF (l.take k) id by rw [HF.out,zcf,if_neg (by rw [ham];simp)])
       go_wp2_with (go_at_call 103;refine C.out.mono ?_;rintro e w2 ⟨rfl,rfl⟩)
       go_roundw
       case rel=>exact ⟨k + 1,by omega,by go_num,by unfold Hid;rw [HS.out];exact HP.out⟩
       case measure=>simp [intOf];omega
     · rw [ham] at C
       have HS:=y10h (show rawF (l.take (k + 1)) id=maxV (rawF (l.take k) id) f.v by rw [HF.out,zcf,if_pos ham])
       have M:=y10h (zo5 (rawF (l.take k) id) f.v wr.drew)
       clear HF ham
       go_wp2_with (go_at_call 103;refine C.out.mono ?_;rintro e w2 ⟨rfl,rfl⟩)
       refine za2 7 (by kernel_rfl) (by kernel_rfl) ?_
       simp only [List.take_succ_cons,List.take_zero,List.drop_succ_cons,List.drop_zero]
       repeat still_step
       refine wpStill_nil ?_
       clear c0 c1 c2 c3 c4 c5 c6 c7 c8 l1 l3
       go_wp2_with fail
       refine M.out.mono ?_
       rintro e w2 ⟨rfl,hb2⟩
       have hb3:Below wr.heap.size wr w2:=(Below.refl wr.heap.size wr).drew.trans hb2
       have HP2:=y10h (HP.out.later hb3)
       clear hb2 hb3 HP
       have l3:=HP2.out.o3.cell
       have f3:=HP2.out.o3.free
       have z3:=HP2.out.o3.lt
       have HP3:=y10h (HP2.out.put8 (.int .i64 (maxV (rawF (l.take k) id) f.v 0)) (.int .i64 (maxV (rawF (l.take k) id) f.v 1)) (.int .i64 (maxV (rawF (l.take k) id) f.v 2)) (.int .i64 (maxV (rawF (l.take k) id) f.v 3)) (.int .i64 (maxV (rawF (l.take k) id) f.v 4)) (.int .i64 (maxV (rawF (l.take k) id) f.v 5)) (.int .i64 (maxV (rawF (l.take k) id) f.v 6)) (.int .i64 (maxV (rawF (l.take k) id) f.v 7)))
       rw [← HS.out] at HP3
       go_wp2_with fail
       clear l3 f3 z3
       go_roundw
       case rel=>exact ⟨k + 1,by omega,by go_num,by rw [HS.out] at HP3 ⊢;exact HP3⟩
       case measure=>simp [intOf];omega
   · have e:len=k:=by omega
     subst e
     have h1:=HP.out
     rw [show l.take len=l from List.take_of_length_le (by rw [HN.out];omega)] at h1
     rw [zwf B (rawF l id)] at h1
     have HP:=y10h h1
     have HPx:=HP
     clear h1
     go_wp2_with fail
     clear l1 z1
     go_loopw [7] (fun iv wr=>zzn B (rawF l id) (knA A (.slice oa len cap)) w iv wr) (fun iv _=>8 - (intOf iv).toNat)
     case atStart=>exact ⟨0,by omega,rfl,HPx⟩
     case round =>
       clear HP HPx
       obtain ⟨j,hj,rfl,HP⟩:=hrel
       by_cases hjt:j < 8
       · have LA:=fun dd os=>(HP.out.o1.has.regrown dd os j).trans (zlu A _ hjt)
         have LB:=fun dd os=>(HP.out.o3.has.regrown dd os j).trans (zca (mixV B (rawF l id) j) hjt)
         have zA:=HP.out.o1.lt
         have zB:=HP.out.o3.lt
         have k0:(0:Int)≤(j:Int):=by omega
         have k1:(j:Int) < 8:=by omega
         have hm:mixV B (rawF l id) j j=rawF l id j:=by unfold mixV;rw [if_neg (by omega)]
         rw [hm] at LB
         by_cases h:rawF l id j≤A j
         · have g:decide (rawF l id j≤A j)=true:=decide_eq_true h
           have HV:=y10h (show (0:Int)=B j by rw [HBE.out j hjt,if_pos h])
           go_wp2_with fail
           refine wp_region_quiet_below (by kernel_rfl) (by kernel_rfl) ?_
           repeat (first | go_big_quiet_step (fail) | quiet_step (fail))
           refine wpQuiet_nil ?_
           intro w7 hw'
           have hb':=y10h (zag hw')
           clear hw'
           clear LA LB
           have HP7:=y10h (HP.out.later hb'.out)
           have HP8:=HP7.out.put1 hjt 0
           rw [zy3 _ _ HV.out] at HP8
           have HP9:=y10h HP8
           clear HP8
           have c7:=(HP7.out.o3.cell j).trans (zca (mixV B (rawF l id) j) hjt)
           have f7:=HP7.out.o3.free j
           have z7:=HP7.out.o3.lt
           go_wp2_with fail
           go_roundw
           case rel=>exact ⟨j + 1,by omega,by go_num,HP9⟩
           case measure=>simp [intOf];omega
         · have g:decide (rawF l id j≤A j)=false:=decide_eq_false h
           have HV:=y10h (show rawF l id j=B j by rw [HBE.out j hjt,if_neg h])
           go_wp2_with fail
           refine wp_region_quiet_below (by kernel_rfl) (by kernel_rfl) ?_
           repeat (first | go_big_quiet_step (fail) | quiet_step (fail))
           refine wpQuiet_nil ?_
           intro w7 hw'
           have hb':=y10h (zag hw')
           clear hw'
           clear LA LB
           have HP7:=HP.out.later hb'.out
           rw [zwe _ _ HV.out] at HP7
           have HP9:=y10h HP7
           clear HP7
           go_wp2_with fail
           go_roundw
           case rel=>exact ⟨j + 1,by omega,by go_num,HP9⟩
           case measure=>simp [intOf];omega
       · have e:j=8:=by omega
         subst e
         have h1:=HP.out
         rw [zub] at h1
         have HP:=y10h h1
         clear h1
         have l2:=HP.out.o2.cell
         have f2:=HP.out.o2.free
         have z2:=HP.out.o2.lt
         have l3:=HP.out.o3.cell
         have z3:=HP.out.o3.lt
         go_wp2_with fail
         have key:=And.intro (zbr HP.out.o2 (.int .i64 (B 0)) (.int .i64 (B 1)) (.int .i64 (B 2)) (.int .i64 (B 3)) (.int .i64 (B 4)) (.int .i64 (B 5)) (.int .i64 (B 6)) (.int .i64 (B 7))) (za5 (b:=w.heap.size + 1) HP.out.bel (by omega) (.int .i64 (B 0)) (.int .i64 (B 1)) (.int .i64 (B 2)) (.int .i64 (B 3)) (.int .i64 (B 4)) (.int .i64 (B 5)) (.int .i64 (B 6)) (.int .i64 (B 7)))
         clear l2 f2 z2 l3 z3
         unfold st8 at key
         revert key
         generalize World.setCell (World.setCell (World.setCell (World.setCell (World.setCell (World.setCell (World.setCell (World.setCell _ _ _) _ _) _ _) _ _) _ _) _ _) _ _) _ _=WW
         rintro ⟨of,bf⟩
         have lf:=of.cell
         refine bodyPost_ret (v:=vecV B) (by simp [results,Tryz.results206,go_sem,lf]) rfl ⟨rfl,bf⟩
end Go.Proofs.YtodfhabkdaiopaaGreat
