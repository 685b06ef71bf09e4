/- Joined: RegD, RefKnow1, Lies, ItemE. -/
import Derived.Deep.RegionHeld
import Derived.Test.YthnllikalobmeaaGreatJ08
import Derived.Deep.CutBlock
import Derived.Deep.DeepCutAuto
import Derived.Test.YthnllikalobmeaaGreatJ07
import Derived.Test.YthnllikalobmeaaGreatJ09
namespace Go.Proofs.YthnllikalobmeaaGreat
set_option linter.unusedVariables false
set_option linter.unusedSimpArgs false
set_option maxRecDepth 100000
set_option maxHeartbeats 8000000
open Go
section
variable {P:Program} {ops:Array Oper} {Q:Exit → Act → World → Prop} {md:Region.Mode} {S:World → Prop} {D:Nat → Bool}
def late (P:Program) (md:Region.Mode) (ops:Array Oper) (Q:Exit → Act → World → Prop) (S:World → Prop) (D:Nat → Bool) (fuel:Nat) (listed:Array Bool) (a:Act) (w:World):Prop :=
 match fuel with
 | 0=>Region.ready md ops listed = [] ∧ Q .normal a w
 | n + 1=>(Region.ready md ops listed = [] → Q .normal a w) ∧ ∀ i ∈ Region.ready md ops listed,
     wpOp P ops Q i (fun a' w'=>(D i = false → S w') ∧ late P md ops Q S D n (listed.setIfInBounds i true) a' w') a w
theorem ztd:∀ (n:Nat) {l:Array Bool} {a:Act} {w:World},late P md ops Q S D n l a w → wpAny P md ops Q n l a w:=by
 intro n
 induction n with
 | zero=>intro l a w h;exact h
 | succ n ih=>intro l a w h;exact ⟨h.1,fun i hi=>wpOp_mono (fun a' w' hk=>ih hk.2) (h.2 i hi)⟩
def zjq (md:Region.Mode) (ops:Array Oper) (D:Nat → Bool) (i:Nat):Bool :=
 (List.range ops.size).all fun j=>!D j || (match ops[j]? with | some oj=>oj.after.any (fun e=>Region.binds md e && e.on == i) | none=>true)
theorem zow {i j:Nat} {oj:Oper} {l:Array Bool} (h:zjq md ops D i = true) (hj:j ∈ Region.ready md ops l) (hoj:ops[j]? = some oj) (hi:l.getD i true = false):D j = false:=by
 cases hd:D j with
 | false=>rfl
 | true =>
   exfalso
   have h1:=List.all_eq_true.1 h j (List.mem_range.2 (Array.getElem?_eq_some_iff.1 hoj).1)
   simp only [hd,hoj,Bool.not_true,Bool.false_or] at h1
   obtain ⟨e,he,hb⟩:=Array.any_eq_true'.1 h1
   simp only [Bool.and_eq_true,beq_iff_eq] at hb
   obtain ⟨_,o,ho,hall⟩:=mem_ready.1 hj
   rw [hoj] at ho
   cases ho
   have h2:=hall e he hb.1
   rw [hb.2] at h2
   rcases Nat.lt_or_ge i l.size with hl | hl
   · simp [hl] at hi h2;rw [hi] at h2;cases h2
   · simp [Array.getElem?_eq_none hl] at hi
theorem zpp {i:Nat} {oi:Oper} {v:Value} (hi:ops[i]? = some oi) (hsel:∀ (j:Nat) (o:Oper) cs b,ops[j]? = some o → o.op ≠ .select cs b) (hQ:∀ c a w,Q (.panic c) (a.put oi.dst v) w → Q (.panic c) a w) (hW:zjq md ops D i = true) :
   ∀ (n:Nat) {l:Array Bool} {a:Act} {w:World},(∀ j oj,ops[j]? = some oj → j ≠ i → l.getD j true = false → (∀ e ∈ oj.after,Region.binds md e = true → e.on ≠ i) → oi.apart ops oj = true) →
     i ∈ Region.ready md ops l → YieldsIf P ops S oi v a → S w → late P md ops Q S D n (l.setIfInBounds i true) (a.put oi.dst v) w → late P md ops Q S D (n + 1) l a w:=by
 intro n
 induction n with
 | zero =>
   intro l a w _ hr hy hS H
   refine ⟨fun h=>(by rw [h] at hr;cases hr),fun j hj=>?_⟩
   rcases Decidable.em (j = i) with e | e
   · subst e;exact hy.wpOp hi hS ⟨fun _=>hS,H⟩
   · have hm:=ready_mono hj e
     rw [H.1] at hm;cases hm
 | succ n ih =>
   intro l a w hfree hr hy hS H
   refine ⟨fun h=>(by rw [h] at hr;cases hr),fun j hj=>?_⟩
   rcases Decidable.em (j = i) with e | e
   · subst e;exact hy.wpOp hi hS ⟨fun _=>hS,H⟩
   · obtain ⟨hun,oj,hoj,hall⟩:=mem_ready.1 hj
     have hli:=(mem_ready.1 hr).1
     have hDj:=zow hW hj hoj hli
     have hno:∀ k ∈ oj.after,Region.binds md k = true → k.on ≠ i:=by
       intro k hk hb hki
       have h1:=hall k hk hb
       rw [hki] at h1
       rcases Nat.lt_or_ge i l.size with hl | hl
       · simp [hl] at hli h1;rw [hli] at h1;cases h1
       · simp [Array.getElem?_eq_none hl] at hli
     have hstep:=wpOp_putIf hoj (hfree j oj hoj e hun hno) (fun cs b=>hsel i oi cs b hi) (fun cs b=>hsel j oj cs b hoj) hQ hy (H.2 j (ready_mono hj e))
     refine wpOp_mono (fun a' w' hk=>⟨hk.2.1,ih ?_ (ready_mono hr (Ne.symm e)) hk.1 (hk.2.1 hDj) ?_⟩) hstep
     · intro k ok hok hki hku hkno
       refine hfree k ok hok hki ?_ hkno
       rcases Decidable.em (j = k) with ejk | ejk
       · subst ejk;exact hun
       · rw [getD_set_ne true ejk] at hku;exact hku
     · rw [Array.setIfInBounds_comm _ _ e];exact hk.2.2
theorem zc8 {i:Nat} {oi:Oper} {v:Value} {n:Nat} {l:Array Bool} {a:Act} {w:World} (hi:ops[i]? = some oi) (hs:Region.noSelect ops = true) (hf:Region.free md ops l i = true) (hr:(Region.ready md ops l).contains i = true) (hW:zjq md ops D i = true)
   (hQ:∀ c a w,Q (.panic c) (a.put oi.dst v) w → Q (.panic c) a w) (hy:YieldsIf P ops S oi v a) (hS:S w) (h:late P md ops Q S D n (l.setIfInBounds i true) (a.put oi.dst v) w):late P md ops Q S D (n + 1) l a w :=
 zpp hi (Region.noSelect_spec hs) hQ hW n (Region.free_spec hi hf) (by simpa using hr) hy hS h
theorem znu {i:Nat} {oi:Oper} {v:Value} (hi:ops[i]? = some oi) (hsel:∀ (j:Nat) (o:Oper) cs b,ops[j]? = some o → o.op ≠ .select cs b) (hQ:∀ c a w,Q (.panic c) (a.put oi.dst v) w → Q (.panic c) a w) (hD:D i = true) :
   ∀ (n:Nat) {l:Array Bool} {a:Act} {w:World},(∀ j oj,ops[j]? = some oj → j ≠ i → l.getD j true = false → (∀ e ∈ oj.after,Region.binds md e = true → e.on ≠ i) → oi.apart ops oj = true) →
     i ∈ Region.ready md ops l → YieldsIf P ops (fun _=>True) oi v a → late P md ops Q S D n (l.setIfInBounds i true) (a.put oi.dst v) w → late P md ops Q S D (n + 1) l a w:=by
 intro n
 induction n with
 | zero =>
   intro l a w _ hr hy H
   refine ⟨fun h=>(by rw [h] at hr;cases hr),fun j hj=>?_⟩
   rcases Decidable.em (j = i) with e | e
   · subst e;exact hy.wpOp hi trivial ⟨fun h=>(by rw [hD] at h;cases h),H⟩
   · have hm:=ready_mono hj e
     rw [H.1] at hm;cases hm
 | succ n ih =>
   intro l a w hfree hr hy H
   refine ⟨fun h=>(by rw [h] at hr;cases hr),fun j hj=>?_⟩
   rcases Decidable.em (j = i) with e | e
   · subst e;exact hy.wpOp hi trivial ⟨fun h=>(by rw [hD] at h;cases h),H⟩
   · obtain ⟨hun,oj,hoj,hall⟩:=mem_ready.1 hj
     have hli:=(mem_ready.1 hr).1
     have hno:∀ k ∈ oj.after,Region.binds md k = true → k.on ≠ i:=by
       intro k hk hb hki
       have h1:=hall k hk hb
       rw [hki] at h1
       rcases Nat.lt_or_ge i l.size with hl | hl
       · simp [hl] at hli h1;rw [hli] at h1;cases h1
       · simp [Array.getElem?_eq_none hl] at hli
     have hstep:=wpOp_putIf hoj (hfree j oj hoj e hun hno) (fun cs b=>hsel i oi cs b hi) (fun cs b=>hsel j oj cs b hoj) hQ hy (H.2 j (ready_mono hj e))
     refine wpOp_mono (fun a' w' hk=>⟨hk.2.1,ih ?_ (ready_mono hr (Ne.symm e)) hk.1 ?_⟩) hstep
     · intro k ok hok hki hku hkno
       refine hfree k ok hok hki ?_ hkno
       rcases Decidable.em (j = k) with ejk | ejk
       · subst ejk;exact hun
       · rw [getD_set_ne true ejk] at hku;exact hku
     · rw [Array.setIfInBounds_comm _ _ e];exact hk.2.2
theorem zgu {i:Nat} {oi:Oper} {v:Value} {n:Nat} {l:Array Bool} {a:Act} {w:World} (hi:ops[i]? = some oi) (hs:Region.noSelect ops = true) (hf:Region.free md ops l i = true) (hr:(Region.ready md ops l).contains i = true) (hD:D i = true)
   (hQ:∀ c a w,Q (.panic c) (a.put oi.dst v) w → Q (.panic c) a w) (hy:YieldsIf P ops (fun _=>True) oi v a) (h:late P md ops Q S D n (l.setIfInBounds i true) (a.put oi.dst v) w):late P md ops Q S D (n + 1) l a w :=
 znu hi (Region.noSelect_spec hs) hQ hD n (Region.free_spec hi hf) (by simpa using hr) hy h
theorem zdp {i:Nat} {o:Oper} {n:Nat} {l:Array Bool} {a:Act} {w:World} (hr:Region.ready md ops l = [i]) (ho:ops[i]? = some o)
   (h:∀ K:Act → World → Prop,Shut (∀ a w,(D i = false → S w) → ((D i = false → S w) → late P md ops Q S D n (l.setIfInBounds i true) a w) → K a w) → if Region.wanted o (yielded ops a.tmps) = true then Oper.wp P o a w K Q else K (a.put o.dst undef) w) :
   late P md ops Q S D (n + 1) l a w:=by
 refine ⟨fun h0=>(by rw [hr] at h0;cases h0),fun j hj=>?_⟩
 rw [hr] at hj
 have e:j = i:=by simpa using hj
 subst e
 exact wpOp_step ho (fun K hK=>h K (fun a w h1 h2=>hK a w ⟨h1,h2 h1⟩))
theorem zrb {l:Array Bool} {a:Act} {w:World} (hr:Region.ready md ops l = []) (h:Q .normal a w):∀ n,late P md ops Q S D n l a w
 | 0=>⟨hr,h⟩
 | _ + 1=>⟨fun _=>h,by rw [hr];simp⟩
theorem zpo {id:Nat} {a:Act} {w:World} (hm:P.follows .mixedOrders = true) (hS:S w.drew) (h:S w.drew → late P .any ops Q S D ops.size (Array.replicate ops.size false) a w.drew):(Code.region id ops true).wp P Q a w :=
 wp_region_any hm (ztd _ (h hS))
end
end Go.Proofs.YthnllikalobmeaaGreat
namespace Go.Proofs.YthnllikalobmeaaGreat
set_option linter.unusedVariables false
set_option linter.unusedSimpArgs false
set_option maxRecDepth 100000
set_option maxHeartbeats 8000000
open Go.RowKit
def pc (p:Pr) (v:Value):List Value:=[.int .i64 p.op,.string p.text,.int .i64 p.n,.complex .f64 p.x p.y,v]
def tc (p:Pr) (v:Value):List Value:=[.int .i64 p.op,.string p.text,.int .i64 p.n,.float .f64 p.x,.float .f64 p.y,v]
inductive Lies (sz:Nat) (c:Pr → Value → List Value) (S:Nat → Prop) (w:World):Pr → Value → Prop where
 | mk (op:Int) (t:ByteArray) (n:Int) (x y:Nat) (kids:List Pr) (oa:Option Addr) (cap b o:Nat) (V:Nat → Value) (ht:t.size ≤ maxLen) (hl:kids.length ≤ cap) (hc:cap ≤ maxLen)
     (hn:0 < kids.length → oa = some ⟨b,o,none⟩ ∧ S b)
     (hcell:∀ i p,kids[i]? = some p → ∀ j u,(c p (V i))[j]? = some u → w.cell? ⟨b,o + i * sz + j,none⟩ = some u)
     (hrec:∀ i p,kids[i]? = some p → Lies sz c S w p (V i)):Lies sz c S w (.node op t n x y kids) (.slice oa kids.length cap)
theorem zb4 {l:List Pr} {i:Nat} {p:Pr} (h:l[i]? = some p):i < l.length:=(List.getElem?_eq_some_iff.1 h).1
theorem Lies.mono {sz:Nat} {c:Pr → Value → List Value} {S S':Nat → Prop} {w w':World} {p:Pr} {v:Value} (h:Lies sz c S w p v)
   (hw:∀ b o,S b → w'.cell? ⟨b,o,none⟩ = w.cell? ⟨b,o,none⟩) (hS:∀ b,S b → S' b):Lies sz c S' w' p v:=by
 induction h with
 | mk op t n x y kids oa cap b o V ht hl hc hn hcell hrec ih =>
   refine .mk op t n x y kids oa cap b o V ht hl hc (fun h=>⟨(hn h).1,hS _ (hn h).2⟩) (fun i p hp j u hu=>?_) fun i p hp=>ih i p hp
   rw [hw _ _ (hn (by have:=zb4 hp;omega)).2]
   exact hcell i p hp j u hu
abbrev LP (w:World) (p:Pr) (v:Value):Prop:=Lies 5 pc (fun b=>b < w.heap.size) w p v
abbrev LT (w:World) (p:Pr) (v:Value):Prop:=Lies 6 tc (fun b=>b < w.heap.size) w p v
theorem Lies.later {sz:Nat} {c:Pr → Value → List Value} {w w':World} {p:Pr} {v:Value} {B:Nat} (h:Lies sz c (fun b=>b < w.heap.size) w p v) (hb:Below B w w') (hB:w.heap.size ≤ B):Lies sz c (fun b=>b < w'.heap.size) w' p v :=
 h.mono (fun b o hS=>hb.cell (p:=⟨b,o,none⟩) (Nat.lt_of_lt_of_le hS hB)) fun _ hS=>Nat.lt_of_lt_of_le hS hb.size
theorem Lies.atAlloc {sz:Nat} {c:Pr → Value → List Value} {w:World} {p:Pr} {v:Value} (h:Lies sz c (fun b=>b < w.heap.size) w p v) (ob:Obj):Lies sz c (fun b=>b < (w.alloc ob).heap.size) (w.alloc ob) p v :=
 h.later ((Below.refl _ _).alloc (Nat.le_refl _) _) (Nat.le_refl _)
theorem zbh {sz:Nat} {c:Pr → Value → List Value} {S:Nat → Prop} {w:World} {p:Pr} {v:Value} (h:Lies sz c S w p v) :
   ∃ (oa:Option Addr) (cap b o:Nat) (V:Nat → Value),v = .slice oa p.kids.length cap ∧ p.text.size ≤ maxLen ∧ p.kids.length ≤ cap ∧ cap ≤ maxLen ∧ (0 < p.kids.length → oa = some ⟨b,o,none⟩ ∧ S b) ∧
     (∀ i q,p.kids[i]? = some q → ∀ j u,(c q (V i))[j]? = some u → w.cell? ⟨b,o + i * sz + j,none⟩ = some u) ∧ (∀ i q,p.kids[i]? = some q → Lies sz c S w q (V i)):=by
 cases h with
 | mk op t n x y kids oa cap b o V ht hl hc hn hcell hrec=>exact ⟨oa,cap,b,o,V,rfl,ht,hl,hc,hn,hcell,hrec⟩
theorem zic {sz:Nat} {c:Pr → Value → List Value} {S:Nat → Prop} {w:World} {op:Int} {t:ByteArray} {n:Int} {x y:Nat} (ht:t.size ≤ maxLen):Lies sz c S w (.node op t n x y []) (.slice none 0 0) :=
 .mk op t n x y [] none 0 0 0 (fun _=>.nilFunc) ht (Nat.le_refl _) (Nat.zero_le _) (fun h=>absurd h (Nat.lt_irrefl _)) (fun i p h=>by simp at h) (fun i p h=>by simp at h)
theorem za2 {sz:Nat} {c:Pr → Value → List Value} {S:Nat → Prop} {w:World} {p:Pr} {v:Value} (h:Lies sz c S w p v):v.oneCell' = true:=by
 obtain ⟨_,_,_,_,_,rfl,_⟩:=zbh h;rfl
theorem zrs {q:Pr} {v:Value} (h:v.oneCell' = true):∀ u ∈ pc q v,u.oneCell' = true:=by
 intro u hu
 simp only [pc,List.mem_cons,List.not_mem_nil,or_false] at hu
 rcases hu with rfl | rfl | rfl | rfl | rfl
 · rfl
 · rfl
 · rfl
 · rfl
 · exact h
theorem zc1 {w:World} {q:Pr} {v:Value} {b o:Nat} (h:∀ j u,(pc q v)[j]? = some u → w.cell? ⟨b,o + j,none⟩ = some u) :
   w.cell? ⟨b,o,none⟩ = some (.int .i64 q.op) ∧ w.cell? ⟨b,o + 1,none⟩ = some (.string q.text) ∧ w.cell? ⟨b,o + 2,none⟩ = some (.int .i64 q.n) ∧ w.cell? ⟨b,o + 3,none⟩ = some (.complex .f64 q.x q.y) ∧ w.cell? ⟨b,o + 4,none⟩ = some v :=
 ⟨h 0 _ rfl,h 1 _ rfl,h 2 _ rfl,h 3 _ rfl,h 4 _ rfl⟩
theorem zm6 {w:World} {q:Pr} {v:Value} {b o:Nat} (h:∀ j u,(tc q v)[j]? = some u → w.cell? ⟨b,o + j,none⟩ = some u) :
   w.cell? ⟨b,o,none⟩ = some (.int .i64 q.op) ∧ w.cell? ⟨b,o + 1,none⟩ = some (.string q.text) ∧ w.cell? ⟨b,o + 2,none⟩ = some (.int .i64 q.n) ∧ w.cell? ⟨b,o + 3,none⟩ = some (.float .f64 q.x) ∧ w.cell? ⟨b,o + 4,none⟩ = some (.float .f64 q.y) ∧ w.cell? ⟨b,o + 5,none⟩ = some v :=
 ⟨h 0 _ rfl,h 1 _ rfl,h 2 _ rfl,h 3 _ rfl,h 4 _ rfl,h 5 _ rfl⟩
def zlk (id:ByteArray) (r c st:Int) (kd:ByteArray) (n:Int) (x y:Nat) (d:Bool) (id':ByteArray) (r' c' st':Int) (kd':ByteArray) (n':Int) (x' y':Nat) (d':Bool):Bool :=
 decide (id.toList = id'.toList) && (decide (r = r') && (decide (c = c') && (decide (st = st') && (decide (kd.toList = kd'.toList) && (decide (n = n') && (decide (d = d') && (feq x x' && feq y y')))))))
theorem zld (id:ByteArray) (r c st:Int) (kd:ByteArray) (n:Int) (x y:Nat) (d:Bool) (id':ByteArray) (r' c' st':Int) (kd':ByteArray) (n':Int) (x' y':Nat) (d':Bool) (w:World) :
   Calls Tryz.prog 59 #[zd8 id r c st kd n x y d,zd8 id' r' c' st' kd' n' x' y' d'] w fun e w'=>e = .returned (.bool (zlk id r c st kd n x y d id' r' c' st' kd' n' x' y' d')) ∧ Below w.heap.size w w':=by
 have f1:∀ x y,(FloatKind.f64.format.order x y == some .eq) = feq x y:=fun _ _=>rfl
 go_enter Tryz.func59,Tryz.ntmps59
 go_wp2
 all_goals
   go_ret
   exact ⟨zaa (by simp_all [zlk]),((Below.refl _ _).alloc (Nat.le_refl _) _).alloc (by simp) _⟩
end Go.Proofs.YthnllikalobmeaaGreat
