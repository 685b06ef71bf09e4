/- Joined: RefVec, VecI, VecRep, RefVec2. -/
import Derived.Test.YthnllikalobmeaaGreatJ01
import Derived.Deep.CutBlock
import Derived.Deep.DeepCutAuto
namespace Go.Proofs.YthnllikalobmeaaGreat
set_option linter.unusedVariables false
set_option linter.unusedSimpArgs false
set_option maxRecDepth 100000
set_option maxHeartbeats 8000000
open Go.RowKit
theorem zu1 {A:Nat → Int} {r:Int} (h:r < 1 ∨ 8 < r):cntV A r = 0:=by unfold cntV;rw [if_neg (by omega)]
theorem zwe {A:Nat → Int} {k:Nat} (h:k < 8):cntV A ((k:Int) + 1) = A k:=by
 unfold cntV
 rw [if_pos (by omega)]
 congr 1
 omega
def zuw (P:Nat → Prop) (w0:World) (i:Value) (wr:World):Prop:=∃ k:Nat,k ≤ 8 ∧ i = .int .i64 k ∧ Hid (∀ j,j < k → P j) ∧ Below w0.heap.size w0 wr
theorem zso {P:Nat → Prop} {k:Nat} (h:∀ j,j < k → P j) (hk:P k):∀ j,j < k + 1 → P j:=by
 intro j hj
 by_cases e:j = k
 · rw [e];exact hk
 · exact h j (by omega)
def upTo (k:Nat) (M:Nat → Int) (j:Nat):Int:=if j < k then M j else 0
theorem zsk (M:Nat → Int) (k:Nat):(fun j=>if j = k then M k else upTo k M j) = upTo (k + 1) M:=by
 funext j;unfold upTo;split
 · rename_i h;rw [h,if_pos (by omega)]
 · split
   · rw [if_pos (by omega)]
   · rw [if_neg (by omega)]
structure MSt (A B M:Nat → Int) (k:Nat) (w wr:World):Prop where
 o1:Own wr w.heap.size (arr8 A) 28
 o2:Own wr (w.heap.size + 1) (arr8 B) 28
 o3:Own wr (w.heap.size + 1 + 1) (arr8 fun _=>0) 28
 o4:Own wr (w.heap.size + 1 + 1 + 1) (arr8 (upTo k M)) 28
 bel:Below w.heap.size w wr
theorem MSt.later {A B M:Nat → Int} {k:Nat} {w wr w':World} (h:MSt A B M k w wr) (hb:Below wr.heap.size wr w'):MSt A B M k w w' :=
 ⟨h.o1.later hb,h.o2.later hb,h.o3.later hb,h.o4.later hb,h.bel.trans (hb.mono h.bel.size)⟩
theorem MSt.put {A B M:Nat → Int} {k:Nat} {w wr:World} (h:MSt A B M k w wr) (hk:k < 8) (v:Int) :
   Own (wr.setCell ⟨w.heap.size + 1 + 1 + 1,k,none⟩ (.int .i64 v)) (w.heap.size + 1 + 1 + 1) (arr8 (fun j=>if j = k then v else upTo k M j)) 28 ∧ ∀ F,Own wr (w.heap.size + 1 + 1 + 1) (arr8 F) 28 → Own (wr.setCell ⟨w.heap.size + 1 + 1 + 1,k,none⟩ (.int .i64 v)) (w.heap.size + 1 + 1 + 1) (arr8 (fun j=>if j = k then v else F j)) 28:=by
 refine ⟨?_,fun F hF=>?_⟩
 · rw [← zfc _ hk];exact h.o4.set k _
 · rw [← zfc _ hk];exact hF.set k _
theorem MSt.step {A B M:Nat → Int} {k:Nat} {w wr w':World} (h:MSt A B M k w wr) (h1:Own w' w.heap.size (arr8 A) 28) (h2:Own w' (w.heap.size + 1) (arr8 B) 28) (h3:Own w' (w.heap.size + 1 + 1) (arr8 fun _=>0) 28)
   (h4:Own w' (w.heap.size + 1 + 1 + 1) (arr8 (fun j=>if j = k then M k else upTo k M j)) 28) (hb:Below w.heap.size w w'):MSt A B M (k + 1) w w' :=
 ⟨h1,h2,h3,by rw [← zsk];exact h4,hb⟩
theorem zwt (A:Nat → Int) (w:World):(Instr.index 28 (vecV A) (.int .i64 0)).run Tryz.prog w = .ok (.int .i64 (A 0)) w:=by kernel_rfl
theorem zwu (A:Nat → Int) (w:World):(Instr.index 28 (vecV A) (.int .i64 1)).run Tryz.prog w = .ok (.int .i64 (A 1)) w:=by kernel_rfl
theorem zwv (A:Nat → Int) (w:World):(Instr.index 28 (vecV A) (.int .i64 2)).run Tryz.prog w = .ok (.int .i64 (A 2)) w:=by kernel_rfl
theorem zww (A:Nat → Int) (w:World):(Instr.index 28 (vecV A) (.int .i64 3)).run Tryz.prog w = .ok (.int .i64 (A 3)) w:=by kernel_rfl
theorem zwx (A:Nat → Int) (w:World):(Instr.index 28 (vecV A) (.int .i64 4)).run Tryz.prog w = .ok (.int .i64 (A 4)) w:=by kernel_rfl
theorem zwy (A:Nat → Int) (w:World):(Instr.index 28 (vecV A) (.int .i64 5)).run Tryz.prog w = .ok (.int .i64 (A 5)) w:=by kernel_rfl
theorem zwz (A:Nat → Int) (w:World):(Instr.index 28 (vecV A) (.int .i64 6)).run Tryz.prog w = .ok (.int .i64 (A 6)) w:=by kernel_rfl
theorem zw0 (A:Nat → Int) (w:World):(Instr.index 28 (vecV A) (.int .i64 7)).run Tryz.prog w = .ok (.int .i64 (A 7)) w:=by kernel_rfl
theorem idx8 (A:Nat → Int) {k:Nat} (h:k < 8) (w:World):(Instr.index 28 (vecV A) (.int .i64 (k:Int))).run Tryz.prog w = .ok (.int .i64 (A k)) w:=by
 match k,h with
 | 0,_=>exact zwt A w
 | 1,_=>exact zwu A w
 | 2,_=>exact zwv A w
 | 3,_=>exact zww A w
 | 4,_=>exact zwx A w
 | 5,_=>exact zwy A w
 | 6,_=>exact zwz A w
 | 7,_=>exact zw0 A w
def repB (r:Int):Bool:=decide (1 ≤ r) && decide (r ≤ 8)
theorem zgf (r:Int) (w:World) :
   Calls Tryz.prog 107 #[.int .i64 r] w fun e w'=>e = .returned (.bool (repB r)) ∧ w' = w:=by
 unfold repB
 cases g1:decide (1 ≤ r)
 all_goals
   cases g2:decide (r ≤ 8)
   all_goals
     go_enter Tryz.func107,Tryz.ntmps107
     go_wp2_with fail
     go_ret
     simp
theorem zle (r:Int) (w:World) :
   Calls Tryz.prog 107 #[.int .i64 r] w fun e w'=>e = .returned (.bool (repB r)) ∧ Below w.heap.size w w' :=
 (zgf r w).mono (by rintro e w' ⟨h,rfl⟩;exact ⟨h,Below.refl _ _⟩)
theorem zr0 {r:Int} (h:r < 1 ∨ 8 < r):repB r = false:=by
 unfold repB
 rcases h with h | h
 · rw [show decide (1 ≤ r) = false from decide_eq_false (by omega)];rfl
 · rw [show decide (r ≤ 8) = false from decide_eq_false (by omega)];simp
theorem zou {k:Nat} (h:k < 8):repB ((k:Int) + 1) = true:=by
 unfold repB
 rw [show decide (1 ≤ (k:Int) + 1) = true from decide_eq_true (by omega),show decide ((k:Int) + 1 ≤ 8) = true from decide_eq_true (by omega)]
 rfl
theorem zvk {A:Nat → Int} {r c:Int} (h:r < 1 ∨ 8 < r):hasV A r c = false:=by
 unfold hasV
 rw [zu1 h]
 by_cases h1:1 ≤ c
 · rw [show decide (c ≤ 0) = false from decide_eq_false (by omega)];simp
 · rw [decide_eq_false h1];rfl
theorem zuc {A:Nat → Int} {r c:Int} (h:r < 1 ∨ 8 < r):vecV A = vecV (zau A r c):=ze8 fun j _=>by unfold zau;rw [if_neg (by omega)]
theorem zv2 {A:Nat → Int} {c:Int} {k:Nat} (hc:c ≤ A k):vecV A = vecV (zau A ((k:Int) + 1) c):=ze8 fun j _=>by
 unfold zau
 rw [if_neg]
 rintro ⟨h1,_,_,h2⟩
 have e:((k:Int) + 1 - 1).toNat = k:=by omega
 rw [e] at h1;subst h1;omega
theorem zv1 {A:Nat → Int} {c:Int} {k:Nat} (hk:k < 8) (hc:A k < c):vecV (fun j=>if j = k then c else A j) = vecV (zau A ((k:Int) + 1) c):=ze8 fun j _=>by
 have e:((k:Int) + 1 - 1).toNat = k:=by omega
 unfold zau
 rw [e]
 by_cases h:j = k
 · subst h;rw [if_pos rfl,if_pos ⟨rfl,by omega,by omega,hc⟩]
 · rw [if_neg h,if_neg (fun h'=>h h'.1)]
end Go.Proofs.YthnllikalobmeaaGreat
