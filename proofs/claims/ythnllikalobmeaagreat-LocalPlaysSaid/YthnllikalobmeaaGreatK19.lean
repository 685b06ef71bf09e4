/- Joined: RegD, Pfx, KMap, KBey. -/
import Derived.Deep.RegionHeld
import Derived.Test.YthnllikalobmeaaGreatK11
import Derived.Test.YthnllikalobmeaaGreatK01
import Derived.Test.YthnllikalobmeaaGreatK08
import Derived.Test.YthnllikalobmeaaGreatK07
import Derived.Maps.OwnSet
import Derived.Test.YthnllikalobmeaaGreatK02
namespace Go.Proofs.YthnllikalobmeaaGreat
set_option linter.unusedVariables false
set_option linter.unusedSimpArgs false
set_option maxRecDepth 100000
set_option maxHeartbeats 8000000
open Go
section
variable {P:Program} {ops:Array Oper} {Q:Exit → Act → World → Prop} {md:Region.Mode} {S:World → Prop} {D:Nat → Bool}
def late (P:Program) (md:Region.Mode) (ops:Array Oper) (Q:Exit → Act → World → Prop) (S:World → Prop) (D:Nat → Bool) (fuel:Nat) (listed:Array Bool) (a:Act) (w:World):Prop :=
 match fuel with
 | 0=>Region.ready md ops listed = [] ∧ Q .normal a w
 | n + 1=>(Region.ready md ops listed = [] → Q .normal a w) ∧ ∀ i ∈ Region.ready md ops listed,
     wpOp P ops Q i (fun a' w'=>(D i = false → S w') ∧ late P md ops Q S D n (listed.setIfInBounds i true) a' w') a w
theorem zv5:∀ (n:Nat) {l:Array Bool} {a:Act} {w:World},late P md ops Q S D n l a w → wpAny P md ops Q n l a w:=by
 intro n
 induction n with
 | zero=>intro l a w h;exact h
 | succ n ih=>intro l a w h;exact ⟨h.1,fun i hi=>wpOp_mono (fun a' w' hk=>ih hk.2) (h.2 i hi)⟩
def zks (md:Region.Mode) (ops:Array Oper) (D:Nat → Bool) (i:Nat):Bool :=
 (List.range ops.size).all fun j=>!D j || (match ops[j]? with | some oj=>oj.after.any (fun e=>Region.binds md e && e.on == i) | none=>true)
theorem zq4 {i j:Nat} {oj:Oper} {l:Array Bool} (h:zks md ops D i = true) (hj:j ∈ Region.ready md ops l) (hoj:ops[j]? = some oj) (hi:l.getD i true = false):D j = false:=by
 cases hd:D j with
 | false=>rfl
 | true =>
   exfalso
   have h1:=List.all_eq_true.1 h j (List.mem_range.2 (Array.getElem?_eq_some_iff.1 hoj).1)
   simp only [hd,hoj,Bool.not_true,Bool.false_or] at h1
   obtain ⟨e,he,hb⟩:=Array.any_eq_true'.1 h1
   simp only [Bool.and_eq_true,beq_iff_eq] at hb
   obtain ⟨_,o,ho,hall⟩:=mem_ready.1 hj
   rw [hoj] at ho
   cases ho
   have h2:=hall e he hb.1
   rw [hb.2] at h2
   rcases Nat.lt_or_ge i l.size with hl | hl
   · simp [hl] at hi h2;rw [hi] at h2;cases h2
   · simp [Array.getElem?_eq_none hl] at hi
theorem zry {i:Nat} {oi:Oper} {v:Value} (hi:ops[i]? = some oi) (hsel:∀ (j:Nat) (o:Oper) cs b,ops[j]? = some o → o.op ≠ .select cs b) (hQ:∀ c a w,Q (.panic c) (a.put oi.dst v) w → Q (.panic c) a w) (hW:zks md ops D i = true) :
   ∀ (n:Nat) {l:Array Bool} {a:Act} {w:World},(∀ j oj,ops[j]? = some oj → j ≠ i → l.getD j true = false → (∀ e ∈ oj.after,Region.binds md e = true → e.on ≠ i) → oi.apart ops oj = true) →
     i ∈ Region.ready md ops l → YieldsIf P ops S oi v a → S w → late P md ops Q S D n (l.setIfInBounds i true) (a.put oi.dst v) w → late P md ops Q S D (n + 1) l a w:=by
 intro n
 induction n with
 | zero =>
   intro l a w _ hr hy hS H
   refine ⟨fun h=>(by rw [h] at hr;cases hr),fun j hj=>?_⟩
   rcases Decidable.em (j = i) with e | e
   · subst e;exact hy.wpOp hi hS ⟨fun _=>hS,H⟩
   · have hm:=ready_mono hj e
     rw [H.1] at hm;cases hm
 | succ n ih =>
   intro l a w hfree hr hy hS H
   refine ⟨fun h=>(by rw [h] at hr;cases hr),fun j hj=>?_⟩
   rcases Decidable.em (j = i) with e | e
   · subst e;exact hy.wpOp hi hS ⟨fun _=>hS,H⟩
   · obtain ⟨hun,oj,hoj,hall⟩:=mem_ready.1 hj
     have hli:=(mem_ready.1 hr).1
     have hDj:=zq4 hW hj hoj hli
     have hno:∀ k ∈ oj.after,Region.binds md k = true → k.on ≠ i:=by
       intro k hk hb hki
       have h1:=hall k hk hb
       rw [hki] at h1
       rcases Nat.lt_or_ge i l.size with hl | hl
       · simp [hl] at hli h1;rw [hli] at h1;cases h1
       · simp [Array.getElem?_eq_none hl] at hli
     have hstep:=wpOp_putIf hoj (hfree j oj hoj e hun hno) (fun cs b=>hsel i oi cs b hi) (fun cs b=>hsel j oj cs b hoj) hQ hy (H.2 j (ready_mono hj e))
     refine wpOp_mono (fun a' w' hk=>⟨hk.2.1,ih ?_ (ready_mono hr (Ne.symm e)) hk.1 (hk.2.1 hDj) ?_⟩) hstep
     · intro k ok hok hki hku hkno
       refine hfree k ok hok hki ?_ hkno
       rcases Decidable.em (j = k) with ejk | ejk
       · subst ejk;exact hun
       · rw [getD_set_ne true ejk] at hku;exact hku
     · rw [Array.setIfInBounds_comm _ _ e];exact hk.2.2
theorem zdm {i:Nat} {oi:Oper} {v:Value} {n:Nat} {l:Array Bool} {a:Act} {w:World} (hi:ops[i]? = some oi) (hs:Region.noSelect ops = true) (hf:Region.free md ops l i = true) (hr:(Region.ready md ops l).contains i = true) (hW:zks md ops D i = true)
   (hQ:∀ c a w,Q (.panic c) (a.put oi.dst v) w → Q (.panic c) a w) (hy:YieldsIf P ops S oi v a) (hS:S w) (h:late P md ops Q S D n (l.setIfInBounds i true) (a.put oi.dst v) w):late P md ops Q S D (n + 1) l a w :=
 zry hi (Region.noSelect_spec hs) hQ hW n (Region.free_spec hi hf) (by simpa using hr) hy hS h
theorem zpx {i:Nat} {oi:Oper} {v:Value} (hi:ops[i]? = some oi) (hsel:∀ (j:Nat) (o:Oper) cs b,ops[j]? = some o → o.op ≠ .select cs b) (hQ:∀ c a w,Q (.panic c) (a.put oi.dst v) w → Q (.panic c) a w) (hD:D i = true) :
   ∀ (n:Nat) {l:Array Bool} {a:Act} {w:World},(∀ j oj,ops[j]? = some oj → j ≠ i → l.getD j true = false → (∀ e ∈ oj.after,Region.binds md e = true → e.on ≠ i) → oi.apart ops oj = true) →
     i ∈ Region.ready md ops l → YieldsIf P ops (fun _=>True) oi v a → late P md ops Q S D n (l.setIfInBounds i true) (a.put oi.dst v) w → late P md ops Q S D (n + 1) l a w:=by
 intro n
 induction n with
 | zero =>
   intro l a w _ hr hy H
   refine ⟨fun h=>(by rw [h] at hr;cases hr),fun j hj=>?_⟩
   rcases Decidable.em (j = i) with e | e
   · subst e;exact hy.wpOp hi trivial ⟨fun h=>(by rw [hD] at h;cases h),H⟩
   · have hm:=ready_mono hj e
     rw [H.1] at hm;cases hm
 | succ n ih =>
   intro l a w hfree hr hy H
   refine ⟨fun h=>(by rw [h] at hr;cases hr),fun j hj=>?_⟩
   rcases Decidable.em (j = i) with e | e
   · subst e;exact hy.wpOp hi trivial ⟨fun h=>(by rw [hD] at h;cases h),H⟩
   · obtain ⟨hun,oj,hoj,hall⟩:=mem_ready.1 hj
     have hli:=(mem_ready.1 hr).1
     have hno:∀ k ∈ oj.after,Region.binds md k = true → k.on ≠ i:=by
       intro k hk hb hki
       have h1:=hall k hk hb
       rw [hki] at h1
       rcases Nat.lt_or_ge i l.size with hl | hl
       · simp [hl] at hli h1;rw [hli] at h1;cases h1
       · simp [Array.getElem?_eq_none hl] at hli
     have hstep:=wpOp_putIf hoj (hfree j oj hoj e hun hno) (fun cs b=>hsel i oi cs b hi) (fun cs b=>hsel j oj cs b hoj) hQ hy (H.2 j (ready_mono hj e))
     refine wpOp_mono (fun a' w' hk=>⟨hk.2.1,ih ?_ (ready_mono hr (Ne.symm e)) hk.1 ?_⟩) hstep
     · intro k ok hok hki hku hkno
       refine hfree k ok hok hki ?_ hkno
       rcases Decidable.em (j = k) with ejk | ejk
       · subst ejk;exact hun
       · rw [getD_set_ne true ejk] at hku;exact hku
     · rw [Array.setIfInBounds_comm _ _ e];exact hk.2.2
theorem zhv {i:Nat} {oi:Oper} {v:Value} {n:Nat} {l:Array Bool} {a:Act} {w:World} (hi:ops[i]? = some oi) (hs:Region.noSelect ops = true) (hf:Region.free md ops l i = true) (hr:(Region.ready md ops l).contains i = true) (hD:D i = true)
   (hQ:∀ c a w,Q (.panic c) (a.put oi.dst v) w → Q (.panic c) a w) (hy:YieldsIf P ops (fun _=>True) oi v a) (h:late P md ops Q S D n (l.setIfInBounds i true) (a.put oi.dst v) w):late P md ops Q S D (n + 1) l a w :=
 zpx hi (Region.noSelect_spec hs) hQ hD n (Region.free_spec hi hf) (by simpa using hr) hy h
theorem zdx {i:Nat} {o:Oper} {n:Nat} {l:Array Bool} {a:Act} {w:World} (hr:Region.ready md ops l = [i]) (ho:ops[i]? = some o)
   (h:∀ K:Act → World → Prop,Shut (∀ a w,(D i = false → S w) → ((D i = false → S w) → late P md ops Q S D n (l.setIfInBounds i true) a w) → K a w) → if Region.wanted o (yielded ops a.tmps) = true then Oper.wp P o a w K Q else K (a.put o.dst undef) w) :
   late P md ops Q S D (n + 1) l a w:=by
 refine ⟨fun h0=>(by rw [hr] at h0;cases h0),fun j hj=>?_⟩
 rw [hr] at hj
 have e:j = i:=by simpa using hj
 subst e
 exact wpOp_step ho (fun K hK=>h K (fun a w h1 h2=>hK a w ⟨h1,h2 h1⟩))
theorem ztz {l:Array Bool} {a:Act} {w:World} (hr:Region.ready md ops l = []) (h:Q .normal a w):∀ n,late P md ops Q S D n l a w
 | 0=>⟨hr,h⟩
 | _ + 1=>⟨fun _=>h,by rw [hr];simp⟩
theorem zrx {id:Nat} {a:Act} {w:World} (hm:P.follows .mixedOrders = true) (hS:S w.drew) (h:S w.drew → late P .any ops Q S D ops.size (Array.replicate ops.size false) a w.drew):(Code.region id ops true).wp P Q a w :=
 wp_region_any hm (zv5 _ (h hS))
end
end Go.Proofs.YthnllikalobmeaaGreat
namespace Go.Proofs.YthnllikalobmeaaGreat
set_option linter.unusedVariables false
set_option linter.unusedSimpArgs false
set_option maxRecDepth 100000
set_option maxHeartbeats 8000000
open Go.RowKit
theorem zs1 {s t:ByteArray} (h:s.size < t.size):begB s t = false:=by
 unfold begB
 cases h1:t.data.toList.isPrefixOf s.data.toList with
 | false=>rfl
 | true =>
   have h3:=(List.isPrefixOf_iff_prefix.1 h1).length_le
   have e1:t.data.toList.length = t.size:=by simp
   have e2:s.data.toList.length = s.size:=by simp
   omega
theorem zvg {s t:ByteArray} (h:t.size ≤ s.size):begB s t = (s.data.toList.take t.size == t.data.toList):=by
 unfold begB
 rw [Bool.eq_iff_iff,List.isPrefixOf_iff_prefix,beq_iff_eq,List.prefix_iff_eq_take]
 have e1:t.data.toList.length = t.size:=by simp
 rw [e1]
 exact eq_comm
theorem zms (s t:ByteArray) (w:World) (hs:s.size ≤ maxLen) (ht:t.size ≤ maxLen) :
   Calls Tryz.prog 110 #[.string s,.string t] w fun e w'=>e = .returned (.bool (begB s t)) ∧ w = w':=by
 unfold maxLen at hs ht
 by_cases h:t.size ≤ s.size
 · have E:=Lib.hid (zvg h)
   have h1:(t.size:Int) ≤ (s.size:Int):=by omega
   go_enter Tryz.func110,Tryz.ntmps110
   go_wp2_with fail
   go_ret
   refine ⟨zaa ?_,rfl⟩
   rw [E.out]
   rw [ByteArray.toList_eq,ByteArray.toList_eq]
   simp [ByteArray.data_extract]
 · have E:=Lib.hid (zs1 (s:=s) (t:=t) (by omega))
   have h1:(s.size:Int) < (t.size:Int):=by omega
   go_enter Tryz.func110,Tryz.ntmps110
   go_wp2_with fail
   go_ret
   exact ⟨zaa E.out.symm,rfl⟩
theorem zor (s t:ByteArray) (w:World) (hs:s.size ≤ maxLen) (ht:t.size ≤ maxLen) :
   Calls Tryz.prog 64 #[.string s,.string t] w fun e w'=>e = .returned (.bool (begB s t)) ∧ w = w':=by
 have H:=Lib.hid (zms s t w hs ht)
 go_enter Tryz.func64,Tryz.ntmps64
 go_wp2_with (go_at_call 110;refine (H.out).mono ?_;rintro e w' ⟨rfl,rfl⟩)
 go_ret
 exact ⟨rfl,rfl⟩
end Go.Proofs.YthnllikalobmeaaGreat
namespace Go.Proofs.YthnllikalobmeaaGreat
set_option linter.unusedVariables false
set_option linter.unusedSimpArgs false
set_option maxRecDepth 100000
set_option maxHeartbeats 8000000
open Go.RowKit Go.Maps
abbrev zrs (v:Value):Option (DataW Value × List MemPlace):=some (.held v,[])
abbrev keyL (s:ByteArray):Lit:=.string s.data.toList
theorem zof {s t:ByteArray} (h:keyL s = keyL t):s = t:=by
 simp only [keyL,Lit.string.injEq] at h
 cases s;cases t;simp at h;subst h;rfl
theorem zqo {s:ByteArray} (h:s.size ≤ maxLen):keyOf Tryz.prog 9 (.string s) = some (keyL s):=by
 simp [keyOf,mapKey,Tryz.underlying9,h]
theorem lawS:Keyed Tryz.prog 9:=string_keyed Tryz.underlying9
theorem zzb (w:World):(zeroValue 28).run Tryz.prog w = .ok (vecV zad) w:=by kernel_rfl
def Cnt (w:World) (b nn:Nat) (ids:List ByteArray) (raw:ByteArray → Nat → Int):Prop :=
 ∃ D:DataW Value,w.ownsMap Tryz.prog 9 zrs b nn D ∧ (∀ s,D.atKey (keyL s) (.held (vecV zad)) = .held (vecV (raw s))) ∧ (∀ s,Maps.has D (keyL s) = true ↔ s ∈ ids)
section
variable {w w':World} {b nn:Nat} {ids:List ByteArray} {raw:ByteArray → Nat → Int}
theorem Cnt.made (w:World):Cnt (w.alloc (.map #[] 0)) w.heap.size 0 [] (fun _=>zad) :=
 ⟨.map [],World.ownsMap_made _ _ _ _,fun s=>by simp [DataW.atKey],fun s=>by simp [Maps.has]⟩
theorem Cnt.lt (h:Cnt w b nn ids raw):b < w.heap.size:=by
 obtain ⟨D,h,_⟩:=h
 exact h.lt
theorem Cnt.later (h:Cnt w b nn ids raw) (hb:Below w.heap.size w w'):Cnt w' b nn ids raw:=by
 have hlt:=h.lt
 obtain ⟨D,⟨es,clock,h1,F,h2,h3⟩,r⟩:=h
 exact ⟨D,⟨es,clock,(hb.block b hlt).trans h1,F,h2,h3⟩,r⟩
theorem Cnt.look (h:Cnt w b nn ids raw) {s:ByteArray} (hs:s.size ≤ maxLen):(Instr.lookup 145 (.map (some b)) (.string s) false).run Tryz.prog w = .ok (vecV (raw s)) w:=by
 obtain ⟨D,ho,ha,_⟩:=h
 obtain ⟨v,ps,hrun,hv⟩:=ho.lookup lawS Tryz.underlying145 (zzb w) rfl (zqo hs)
 rw [ha] at hv
 simp only [zrs,Option.some.injEq,Prod.mk.injEq,DataW.held.injEq] at hv
 rw [hrun,hv.1]
theorem Cnt.put (h:Cnt w b nn ids raw) {s:ByteArray} (hs:s.size ≤ maxLen) (hn:nn < maxLen) (A:Nat → Int):∃ w',(Instr.mapUpdate 145 (.map (some b)) (.string s) (vecV A)).run Tryz.prog w = .ok () w' ∧
   Cnt w' b (nn + 1) (ids ++ [s]) (fun x=>if x = s then A else raw x) ∧ w.grownBy w' (some b):=by
 obtain ⟨D,ho,ha,hh⟩:=h
 obtain ⟨w',hrun,h1,h2⟩:=ho.update lawS Tryz.underlying145 hn (val:=vecV A) (zqo hs) rfl
 have hI:=ho.isMap
 refine ⟨w',hrun,⟨_,h1,fun x=>?_,fun x=>?_⟩,h2⟩
 · by_cases e:x = s
   · subst e
     rw [atKey_put_same hI (by exact trivial)]
     simp
   · rw [atKey_put_other (fun e'=>e (zof e')),ha x]
     simp [e]
 · by_cases e:x = s
   · subst e
     rw [has_put_same hI (by exact trivial)];simp
   · rw [has_put_other (fun e'=>e (zof e')),hh x];simp [e]
end
def pcEs:Nat → List (Nat → Int) → List MapEntry
 | _,[]=>[]
 | i,A :: l=>⟨vecV A,.int .i64 (i:Int),i⟩ :: pcEs (i + 1) l
theorem zwn (l m:List (Nat → Int)):∀ i,pcEs i (l ++ m) = pcEs i l ++ pcEs (i + l.length) m:=by
 induction l with
 | nil=>intro i;simp [pcEs]
 | cons a l ih=>intro i;simp only [List.cons_append,pcEs,ih,List.length_cons];rw [show i + 1 + l.length = i + (l.length + 1) by omega]
def Pcs (w:World) (b:Nat) (vs:List (Nat → Int)):Prop:=w.heap[b]? = some (.map (pcEs 0 vs).toArray vs.length)
theorem zi4 (A B:Nat → Int):eqV A B = eqV B A:=by
 cases h:eqV A B with
 | true=>exact (eqV_iff.2 fun k hk=>(eqV_iff.1 h k hk).symm).symm
 | false =>
   cases h':eqV B A with
   | false=>rfl
   | true=>rw [eqV_iff.2 fun k hk=>(eqV_iff.1 h' k hk).symm] at h;cases h
theorem znm (A B:Nat → Int) (w:World):(Op.equal 28 (vecV A) (vecV B)).run Tryz.prog w = .ok (eqV A B) w:=zec A B w
theorem znf (em:Bool) (A:Nat → Int) (w:World):(Instr.checkKey em 10000 28 (vecV A)).run Tryz.prog w = .ok () w:=by
 have ju:=Tryz.underlying3
 have ja:=Tryz.isAgg3
 have jz:=Tryz.sizeOf3
 rw [show (10000:Nat) = 9999 + 1 from rfl,Instr.checkKey]
 simp only [Sem.run_bind,run_underlying Tryz.underlying28,Result.andThen_ok]
 have hk:∀ n x w',(Instr.checkKey em (n + 1) 3 (.int .i64 x)).run Tryz.prog w' = .ok () w':=fun n x w'=>MapKept.run_checkKey ju (by first | exact rfl | simp [MapKept.IsKey]) em n
 simp only [Std.Legacy.Range.forIn_eq_forIn_range',Std.Legacy.Range.size,Nat.sub_zero,Nat.add_sub_cancel,Nat.div_one,List.range'_succ,List.range'_zero,List.forIn_cons,List.forIn_nil]
 rw [show (9999:Nat) = 9998 + 1 from rfl]
 go_simp
theorem zix (A:Nat → Int):∀ (vs:List (Nat → Int)) (i j:Nat) (w:World),(∀ B ∈ vs,eqV B A = false) → (Instr.findAsking 28 (vecV A) (pcEs i vs) j).run Tryz.prog w = .ok none w
 | [],i,j,w,_=>by simp [pcEs,Instr.findAsking]
 | B :: vs,i,j,w,h=>by
   have e:=znm A B w
   rw [zi4,h B (by simp)] at e
   simp only [pcEs,Instr.findAsking,Sem.run_bind,e,Result.andThen_ok]
   exact zix A vs (i + 1) (j + 1) w fun C hC=>h C (by simp [hC])
theorem zqb (A:Nat → Int):∀ (vs:List (Nat → Int)) (i j a:Nat) (w:World),(∀ k B,k < a → vs[k]? = some B → eqV B A = false) → (∃ B,vs[a]? = some B ∧ eqV B A = true) → (Instr.findAsking 28 (vecV A) (pcEs i vs) j).run Tryz.prog w = .ok (some (j + a,.int .i64 ((i + a:Nat):Int))) w
 | [],i,j,a,w,_,h=>by obtain ⟨B,h,_⟩:=h;simp at h
 | C :: vs,i,j,0,w,_,h=>by
   obtain ⟨B,hB,hq⟩:=h
   simp at hB;subst hB
   have e:=znm A C w
   rw [zi4,hq] at e
   simp [pcEs,Instr.findAsking,Sem.run_bind,e,Result.andThen_ok]
 | C :: vs,i,j,a + 1,w,hn,h=>by
   have e:=znm A C w
   rw [zi4,hn 0 C (by omega) rfl] at e
   simp only [pcEs,Instr.findAsking,Sem.run_bind,e,Result.andThen_ok]
   have:=zqb A vs (i + 1) (j + 1) a w (fun k B hk hB=>hn (k + 1) B (by omega) (by simpa using hB)) (by obtain ⟨B,hB,hq⟩:=h;exact ⟨B,by simpa using hB,hq⟩)
   rw [show i + 1 + a = i + (a + 1) by omega,show j + 1 + a = j + (a + 1) by omega] at this
   exact this
theorem zrl (A:Nat → Int) (vs:List (Nat → Int)) (i:Nat) (w:World) {r:Option (Nat × Value)} (h:(Instr.findAsking 28 (vecV A) (pcEs i vs) 0).run Tryz.prog w = .ok r w):(Instr.findKey 28 (vecV A) (pcEs i vs)).run Tryz.prog w = .ok r w:=by
 unfold Instr.findKey
 simp only [Sem.run_bind,run_underlying Tryz.underlying28,Result.andThen_ok]
 cases vs with
 | nil=>simp [pcEs,Instr.findNow,Instr.findAsking] at *;exact h
 | cons B vs=>simp only [pcEs,Instr.findNow,Instr.sameNow] at *;exact h
section
variable {w w':World} {b:Nat} {vs:List (Nat → Int)}
theorem Pcs.made (w:World):Pcs (w.alloc (.map #[] 0)) w.heap.size []:=(MapKept.heap_alloc w _).1
theorem Pcs.lt (h:Pcs w b vs):b < w.heap.size:=(Array.getElem?_eq_some_iff.1 h).1
theorem Pcs.later (h:Pcs w b vs) (hb:Below w.heap.size w w'):Pcs w' b vs:=(hb.block b h.lt).trans h
theorem z1w (w:World):(zeroValue 3).run Tryz.prog w = .ok (.int .i64 0) w:=by kernel_rfl
theorem Pcs.miss (h:Pcs w b vs) {A:Nat → Int} (hn:∀ B ∈ vs,eqV B A = false):(Instr.lookup 147 (.map (some b)) (vecV A) true).run Tryz.prog w = .ok (.tuple #[.int .i64 0,.bool false]) w:=by
 simp [Instr.lookup,run_underlying Tryz.underlying147,MapKept.run_getObj_map h,znf,zrl A vs 0 w (zix A vs 0 0 w hn),z1w,Result.andThen]
theorem Pcs.hit (h:Pcs w b vs) {A:Nat → Int} {a:Nat} (hn:∀ k B,k < a → vs[k]? = some B → eqV B A = false) (hi:∃ B,vs[a]? = some B ∧ eqV B A = true):(Instr.lookup 147 (.map (some b)) (vecV A) true).run Tryz.prog w = .ok (.tuple #[.int .i64 a,.bool true]) w:=by
 have e:=zqb A vs 0 0 a w hn hi
 simp only [Nat.zero_add] at e
 simp [Instr.lookup,run_underlying Tryz.underlying147,MapKept.run_getObj_map h,znf,zrl A vs 0 w e,Result.andThen]
theorem Pcs.put (h:Pcs w b vs) {A:Nat → Int} (hn:∀ B ∈ vs,eqV B A = false):∃ w',(Instr.mapUpdate 147 (.map (some b)) (vecV A) (.int .i64 (vs.length:Int))).run Tryz.prog w = .ok () w' ∧ Pcs w' b (vs ++ [A]) ∧ w.grownBy w' (some b):=by
 refine ⟨ChangeMaps.setBlock w b (.map ((pcEs 0 vs).toArray.push ⟨vecV A,.int .i64 (vs.length:Int),vs.length⟩) (vs.length + 1)),?_,?_,⟨rfl,rfl,rfl,by simp [ChangeMaps.setBlock],fun i _ hi=>ChangeMaps.heap_setBlock_other h _ (fun e=>hi (by rw [e]))⟩⟩
 · simp [Instr.mapUpdate,run_underlying Tryz.underlying147,MapKept.run_getObj_map h,znf,zrl A vs 0 w (zix A vs 0 0 w hn),MapKept.run_setObj_map _ h,Result.andThen,ChangeMaps.setBlock]
 · unfold Pcs
   rw [ChangeMaps.heap_setBlock_same h]
   rw [zwn]
   simp [pcEs]
end
end Go.Proofs.YthnllikalobmeaaGreat
namespace Go.Proofs.YthnllikalobmeaaGreat
set_option linter.unusedVariables false
set_option linter.unusedSimpArgs false
set_option maxRecDepth 100000
set_option maxHeartbeats 8000000
open Go.RowKit
def bzV (V A:Nat → Int) (j:Nat):Int:=if V j ≤ A j then 0 else V j
def bz8 (V A:Nat → Int) (k:Nat) (j:Nat):Int:=if j < k then bzV V A j else V j
theorem zvj (V A:Nat → Int):arr8 V = arr8 (bz8 V A 0):=zbc fun j _=>by unfold bz8;rw [if_neg (by omega)]
theorem zs6 (V A:Nat → Int):arr8 (bz8 V A 8) = arr8 (bzV V A):=zbc fun j h=>by unfold bz8;rw [if_pos h]
theorem zya (V A:Nat → Int) {k:Nat} {v:Int} (hv:v = bzV V A k):arr8 (fun j=>if j = k then v else bz8 V A k j) = arr8 (bz8 V A (k + 1)):=zbc fun j _=>by
 unfold bz8
 by_cases e:j = k
 · subst e;rw [if_pos rfl,if_pos (by omega)];exact hv
 · rw [if_neg e]
   by_cases h:j < k
   · rw [if_pos h,if_pos (by omega)]
   · rw [if_neg h,if_neg (by omega)]
theorem zvi (V A:Nat → Int) {k:Nat} (hv:V k = bzV V A k):arr8 (bz8 V A k) = arr8 (bz8 V A (k + 1)):=zbc fun j _=>by
 unfold bz8
 by_cases e:j = k
 · subst e;rw [if_neg (by omega),if_pos (by omega)];exact hv
 · by_cases h:j < k
   · rw [if_pos h,if_pos (by omega)]
   · rw [if_neg h,if_neg (by omega)]
structure BZ (V A:Nat → Int) (k:Nat) (w wr:World):Prop where
 o1:Own wr w.heap.size (arr8 (bz8 V A k)) 28
 o3:Own wr (w.heap.size + 1 + 1) (arr8 fun _=>0) 28
 bel:Below w.heap.size w wr
def z0z (V A:Nat → Int) (w:World) (i:Value) (wr:World):Prop:=∃ k:Nat,k ≤ 8 ∧ i = .int .i64 k ∧ Hid (BZ V A k w wr)
theorem ziz (V A:Nat → Int) (w:World) :
   Calls Tryz.prog 130 #[vecV V,vecV A] w fun e w'=>e = .returned (vecV (bzV V A)) ∧ Below w.heap.size w w':=by
 have I0:BZ V A 0 w (((w.alloc (.cells (arr8 V) 28)).alloc (.cells (arr8 A) 28)).alloc (.cells (arr8 fun _=>0) 28)) :=
   ⟨by rw [← zvj];exact ((Own.new w _ _).alloc _).alloc _,Own.newAt _ _ _ (by simp),(((Below.refl _ _).alloc (Nat.le_refl _) _).alloc (by simp) _).alloc (by simp;omega) _⟩
 have HI0:=Lib.hid I0
 clear I0
 go_enter Tryz.func130,Tryz.ntmps130
 go_wp2_with fail
 go_loopw [8] (fun i wr=>z0z V A w i wr) (fun i _=>8 - (intOf i).toNat)
 case atStart=>exact ⟨0,by omega,rfl,HI0⟩
 case round =>
   clear HI0
   obtain ⟨k,hk,rfl,HP⟩:=hrel
   by_cases hlt:k < 8
   · have ix:=fun w=>idx8 A hlt w
     have ca:=(HP.out.o1.cell k).trans (zbz (bz8 V A k) hlt)
     rw [show bz8 V A k k = V k by unfold bz8;rw [if_neg (by omega)]] at ca
     have fa:=HP.out.o1.free k
     have z1:=HP.out.o1.lt
     have k0:(0:Int) ≤ (k:Int):=by omega
     have k1:(k:Int) < 8:=by omega
     by_cases h:V k ≤ A k
     · have g:decide (V k ≤ A k) = true:=decide_eq_true h
       have HR:Hid (BZ V A (k + 1) w (wr.setCell ⟨w.heap.size,k,none⟩ (.int .i64 0))):=Lib.hid (by
         refine ⟨?_,HP.out.o3.setFar _ _ (by show w.heap.size + 1 + 1 ≠ w.heap.size;omega),HP.out.bel.setCell (p:=⟨w.heap.size,k,none⟩) (Nat.le_refl _) _⟩
         rw [← zya V A (v:=0) (by unfold bzV;rw [if_pos h]),← zdj _ hlt]
         exact HP.out.o1.set k _)
       go_wp2_with fail
       go_roundw
       case rel=>exact ⟨k + 1,by omega,by go_num,HR⟩
       case measure=>simp [intOf];omega
     · have g:decide (V k ≤ A k) = false:=decide_eq_false h
       have HR:Hid (BZ V A (k + 1) w wr):=Lib.hid ⟨by rw [← zvi V A (by unfold bzV;rw [if_neg h])];exact HP.out.o1,HP.out.o3,HP.out.bel⟩
       go_wp2_with fail
       go_roundw
       case rel=>exact ⟨k + 1,by omega,by go_num,HR⟩
       case measure=>simp [intOf];omega
   · have e:k = 8:=by omega
     subst e
     have o1:=HP.out.o1
     rw [zs6] at o1
     have l3:=HP.out.o3.cell
     have f3:=HP.out.o3.free
     have z3:=HP.out.o3.lt
     have l4:=o1.cell
     have z4:=o1.lt
     have BEL:=Lib.hid HP.out.bel
     go_wp2_with fail
     have key:=And.intro (zbj HP.out.o3 (.int .i64 ((bzV V A) 0)) (.int .i64 ((bzV V A) 1)) (.int .i64 ((bzV V A) 2)) (.int .i64 ((bzV V A) 3)) (.int .i64 ((bzV V A) 4)) (.int .i64 ((bzV V A) 5)) (.int .i64 ((bzV V A) 6)) (.int .i64 ((bzV V A) 7))) (za5 (b:=w.heap.size + 1 + 1) BEL.out (by omega) (.int .i64 ((bzV V A) 0)) (.int .i64 ((bzV V A) 1)) (.int .i64 ((bzV V A) 2)) (.int .i64 ((bzV V A) 3)) (.int .i64 ((bzV V A) 4)) (.int .i64 ((bzV V A) 5)) (.int .i64 ((bzV V A) 6)) (.int .i64 ((bzV V A) 7)))
     clear l3 f3 z3 l4 z4
     unfold st8 at key
     revert key
     generalize World.setCell (World.setCell (World.setCell (World.setCell (World.setCell (World.setCell (World.setCell (World.setCell _ _ _) _ _) _ _) _ _) _ _) _ _) _ _) _ _ = WW
     rintro ⟨of,bf⟩
     have lf:=of.cell
     refine bodyPost_ret (v:=vecV ((bzV V A))) (by simp [results,Tryz.results130,go_sem,lf]) rfl ⟨rfl,bf⟩
end Go.Proofs.YthnllikalobmeaaGreat
