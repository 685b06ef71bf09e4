/- Joined: Begins, Part, RegE, ItemEq. -/
import Derived.Test.YthnllikalobmeaaGreatJ11
import Derived.Test.YthnllikalobmeaaGreatJ01
import Derived.Deep.CutBlock
import Derived.Deep.DeepCutAuto
import Derived.Test.YthnllikalobmeaaGreatJ10
import Derived.Test.YthnllikalobmeaaGreatJ06
import Derived.Deep.RegionHeld3
import Derived.Deep.DrawnRows
import Derived.Deep.RegionHeld
import Derived.Test.YthnllikalobmeaaGreatJ12
import Derived.Laws.StructEq
import Derived.Laws.Cover2
namespace Go.Proofs.YthnllikalobmeaaGreat
set_option linter.unusedVariables false
set_option linter.unusedSimpArgs false
set_option maxRecDepth 100000
set_option maxHeartbeats 8000000
open Go.RowKit
def inW (n a b:Int):Bool:=decide (a ≤ n) && decide (n ≤ b)
theorem zcb (n a b:Int) (w:World) :
   Calls Tryz.prog 156 #[.int .i64 n,.int .i64 a,.int .i64 b] w fun e w'=>e = .returned (.bool (inW n a b)) ∧ w = w':=by
 unfold inW
 by_cases h:a ≤ n <;> by_cases h':n ≤ b <;>
 ( go_enter Tryz.func156,Tryz.ntmps156
   go_wp2
   go_ret
   exact ⟨zaa (by simp [h,h']),rfl⟩ )
theorem zsi:txtB ⟨#[]⟩ = true:=by decide
theorem zj5 (s:ByteArray) (w:World) :
   Calls Tryz.prog 155 #[.string s] w fun e w'=>e = .returned (.bool (txtB s)) ∧ w = w':=by
 have H:=Lib.hid (zeb s w)
 by_cases h:s.size = 0
 · have e:=zgg s h
   subst e
   rw [zsi]
   go_enter Tryz.func155,Tryz.ntmps155
   go_wp2
   go_ret
   exact ⟨rfl,rfl⟩
 · have e:zax s = txtB s:=by simp [zax];omega
   rw [e] at H
   clear e
   have h1:s.toList ≠ []:=by
     intro hz
     exact h (by have:=congrArg List.length hz;rw [zhx] at this;simpa using this)
   have h2:s.toList.isEmpty = false:=by rw [List.isEmpty_eq_false_iff];exact h1
   generalize txtB s = r at *
   clear h
   go_enter Tryz.func155,Tryz.ntmps155
   go_wp2_with (go_at_call 97;refine (H.out).mono ?_;rintro e w' ⟨rfl,rfl⟩)
   go_ret
   exact ⟨rfl,rfl⟩
theorem zte (k:Nat):((k:Int) == 0) = decide (k = 0):=by
 rw [Bool.eq_iff_iff];simp
theorem zvn (k:Nat):((k:Int) == 1) = decide (k = 1):=by
 rw [Bool.eq_iff_iff];simp;omega
theorem zo0 (op:Int) (t:ByteArray) (n:Int) (x y:Nat) (oa:Option Addr) (len cap:Nat) (w:World) :
   Calls Tryz.prog 157 #[.agg #[.int .i64 op,.string t,.int .i64 n,.complex .f64 x y,.slice oa len cap]] w fun e w'=>e = .returned (.bool (Pr.bareB t n x y len)) ∧ Below w.heap.size w w':=by
 have f1:∀ x y,(FloatKind.f64.format.order x y == some .eq) = feq x y:=fun _ _=>rfl
 go_enter Tryz.func157,Tryz.ntmps157
 go_wp2
 all_goals
   go_ret
   exact ⟨zaa (by simp_all [Pr.bareB,zte]),(Below.refl _ _).alloc (Nat.le_refl _) _⟩
attribute [local go_sem ↓] Go.wp_at_zero Go.wp_at_succ
theorem zj4 (op:Int) (t:ByteArray) (n:Int) (x y:Nat) (oa:Option Addr) (len cap:Nat) (w:World) :
   Calls Tryz.prog 120 #[.agg #[.int .i64 op,.string t,.int .i64 n,.complex .f64 x y,.slice oa len cap]] w fun e w'=>e = .returned (.bool (Pr.partB op t n x y len)) ∧ Below w.heap.size w w':=by
 have HB:=fun op t n x y oa len cap w=>Lib.hid (zo0 op t n x y oa len cap w)
 have HT:=fun w=>Lib.hid (zj5 t w)
 have HW:=fun a b w=>Lib.hid (zcb n a b w)
 have HM:=fun w=>Lib.hid (zcj x y w)
 have hop:op = 1 ∨ op = 2 ∨ op = 3 ∨ op = 4 ∨ op = 5 ∨ op = 6 ∨ op = 7 ∨ op = 8 ∨ op = 9 ∨ op = 10 ∨ (op ≠ 1 ∧ op ≠ 2 ∧ op ≠ 3 ∧ op ≠ 4 ∧ op ≠ 5 ∧ op ≠ 6 ∧ op ≠ 7 ∧ op ≠ 8 ∧ op ≠ 9 ∧ op ≠ 10):=by omega
 rcases hop with rfl | rfl | rfl | rfl | rfl | rfl | rfl | rfl | rfl | rfl | ⟨n1,n2,n3,n4,n5,n6,n7,n8,n9,n10⟩
 · have e:Pr.partB 1 t n x y len = Pr.bareB t n x y len:=by simp [Pr.partB,inW]
   rw [e]
   clear e
   go_enter Tryz.func120,Tryz.ntmps120
   go_wp2_with fail
   go_region_held3 (fun w'=>w'.cell? ⟨w.heap.size,0,none⟩ = some (.int .i64 1) ∧ w'.cell? ⟨w.heap.size,1,none⟩ = some (.string t) ∧ w'.cell? ⟨w.heap.size,2,none⟩ = some (.int .i64 n) ∧ w'.cell? ⟨w.heap.size,3,none⟩ = some (.complex .f64 x y) ∧ w'.cell? ⟨w.heap.size,4,none⟩ = some (.slice oa len cap)) (go_keep) (fail)
   go_wp2_with (first
     | (go_at_call 155;refine (HT _).out.mono ?_;rintro e w' ⟨rfl,rfl⟩)
     | (go_at_call 156;refine (HW _ _ _).out.mono ?_;rintro e w' ⟨rfl,rfl⟩)
     | (go_at_call 150;refine (HM _).out.mono ?_;rintro e w' ⟨rfl,rfl⟩)
     | (go_at_call 157;refine (HB _ _ _ _ _ _ _ _ _).out.mono ?_;rintro e w' ⟨rfl,hb⟩))
   all_goals
     go_ret
     refine ⟨zaa (by simp_all),?_⟩
     clear HB HT HW HM
     first
       | (refine zbn ?_ hb ?_
          · repeat (first | exact Below.refl _ _ | (refine Below.setCell ?_ (by simp) _) | (refine Below.alloc ?_ (by simp) _) | refine Below.drew ?_)
          · (simp;try omega))
       | (repeat (first | exact Below.refl _ _ | (refine Below.setCell ?_ (by simp) _) | (refine Below.alloc ?_ (by simp) _) | refine Below.drew ?_))
 · have e:Pr.partB 2 t n x y len = Pr.bareB t n x y len:=by simp [Pr.partB,inW]
   rw [e]
   clear e
   go_enter Tryz.func120,Tryz.ntmps120
   go_wp2_with fail
   go_region_held3 (fun w'=>w'.cell? ⟨w.heap.size,0,none⟩ = some (.int .i64 2) ∧ w'.cell? ⟨w.heap.size,1,none⟩ = some (.string t) ∧ w'.cell? ⟨w.heap.size,2,none⟩ = some (.int .i64 n) ∧ w'.cell? ⟨w.heap.size,3,none⟩ = some (.complex .f64 x y) ∧ w'.cell? ⟨w.heap.size,4,none⟩ = some (.slice oa len cap)) (go_keep) (fail)
   go_wp2_with (first
     | (go_at_call 155;refine (HT _).out.mono ?_;rintro e w' ⟨rfl,rfl⟩)
     | (go_at_call 156;refine (HW _ _ _).out.mono ?_;rintro e w' ⟨rfl,rfl⟩)
     | (go_at_call 150;refine (HM _).out.mono ?_;rintro e w' ⟨rfl,rfl⟩)
     | (go_at_call 157;refine (HB _ _ _ _ _ _ _ _ _).out.mono ?_;rintro e w' ⟨rfl,hb⟩))
   all_goals
     go_ret
     refine ⟨zaa (by simp_all),?_⟩
     clear HB HT HW HM
     first
       | (refine zbn ?_ hb ?_
          · repeat (first | exact Below.refl _ _ | (refine Below.setCell ?_ (by simp) _) | (refine Below.alloc ?_ (by simp) _) | refine Below.drew ?_)
          · (simp;try omega))
       | (repeat (first | exact Below.refl _ _ | (refine Below.setCell ?_ (by simp) _) | (refine Below.alloc ?_ (by simp) _) | refine Below.drew ?_))
 · have e:Pr.partB 3 t n x y len = (txtB t && Pr.bareB ⟨#[]⟩ n x y len):=by simp [Pr.partB,inW]
   rw [e]
   clear e
   generalize txtB t = r1 at *
   go_enter Tryz.func120,Tryz.ntmps120
   go_wp2_with fail
   go_region_held3 (fun w'=>w'.cell? ⟨w.heap.size,0,none⟩ = some (.int .i64 3) ∧ w'.cell? ⟨w.heap.size,1,none⟩ = some (.string t) ∧ w'.cell? ⟨w.heap.size,2,none⟩ = some (.int .i64 n) ∧ w'.cell? ⟨w.heap.size,3,none⟩ = some (.complex .f64 x y) ∧ w'.cell? ⟨w.heap.size,4,none⟩ = some (.slice oa len cap)) (go_keep) (fail)
   go_wp2_with (first
     | (go_at_call 155;refine (HT _).out.mono ?_;rintro e w' ⟨rfl,rfl⟩)
     | (go_at_call 156;refine (HW _ _ _).out.mono ?_;rintro e w' ⟨rfl,rfl⟩)
     | (go_at_call 150;refine (HM _).out.mono ?_;rintro e w' ⟨rfl,rfl⟩)
     | (go_at_call 157;refine (HB _ _ _ _ _ _ _ _ _).out.mono ?_;rintro e w' ⟨rfl,hb⟩))
   all_goals
     go_ret
     refine ⟨zaa (by simp_all),?_⟩
     clear HB HT HW HM
     first
       | (refine zbn ?_ hb ?_
          · repeat (first | exact Below.refl _ _ | (refine Below.setCell ?_ (by simp) _) | (refine Below.alloc ?_ (by simp) _) | refine Below.drew ?_)
          · (simp;try omega))
       | (repeat (first | exact Below.refl _ _ | (refine Below.setCell ?_ (by simp) _) | (refine Below.alloc ?_ (by simp) _) | refine Below.drew ?_))
 · have e:Pr.partB 4 t n x y len = (txtB t && Pr.bareB ⟨#[]⟩ n x y len):=by simp [Pr.partB,inW]
   rw [e]
   clear e
   generalize txtB t = r1 at *
   go_enter Tryz.func120,Tryz.ntmps120
   go_wp2_with fail
   go_region_held3 (fun w'=>w'.cell? ⟨w.heap.size,0,none⟩ = some (.int .i64 4) ∧ w'.cell? ⟨w.heap.size,1,none⟩ = some (.string t) ∧ w'.cell? ⟨w.heap.size,2,none⟩ = some (.int .i64 n) ∧ w'.cell? ⟨w.heap.size,3,none⟩ = some (.complex .f64 x y) ∧ w'.cell? ⟨w.heap.size,4,none⟩ = some (.slice oa len cap)) (go_keep) (fail)
   go_wp2_with (first
     | (go_at_call 155;refine (HT _).out.mono ?_;rintro e w' ⟨rfl,rfl⟩)
     | (go_at_call 156;refine (HW _ _ _).out.mono ?_;rintro e w' ⟨rfl,rfl⟩)
     | (go_at_call 150;refine (HM _).out.mono ?_;rintro e w' ⟨rfl,rfl⟩)
     | (go_at_call 157;refine (HB _ _ _ _ _ _ _ _ _).out.mono ?_;rintro e w' ⟨rfl,hb⟩))
   all_goals
     go_ret
     refine ⟨zaa (by simp_all),?_⟩
     clear HB HT HW HM
     first
       | (refine zbn ?_ hb ?_
          · repeat (first | exact Below.refl _ _ | (refine Below.setCell ?_ (by simp) _) | (refine Below.alloc ?_ (by simp) _) | refine Below.drew ?_)
          · (simp;try omega))
       | (repeat (first | exact Below.refl _ _ | (refine Below.setCell ?_ (by simp) _) | (refine Below.alloc ?_ (by simp) _) | refine Below.drew ?_))
 · have e:Pr.partB 5 t n x y len = (inW n (-1000000) 1000000 && Pr.bareB t 0 x y len):=by simp [Pr.partB,inW]
   rw [e]
   clear e
   have HW:=fun w=>Lib.hid (zcb n (-1000000) 1000000 w)
   generalize inW n (-1000000) 1000000 = r1 at *
   go_enter Tryz.func120,Tryz.ntmps120
   go_wp2_with fail
   go_region_held3 (fun w'=>w'.cell? ⟨w.heap.size,0,none⟩ = some (.int .i64 5) ∧ w'.cell? ⟨w.heap.size,1,none⟩ = some (.string t) ∧ w'.cell? ⟨w.heap.size,2,none⟩ = some (.int .i64 n) ∧ w'.cell? ⟨w.heap.size,3,none⟩ = some (.complex .f64 x y) ∧ w'.cell? ⟨w.heap.size,4,none⟩ = some (.slice oa len cap)) (go_keep) (fail)
   go_wp2_with (first
     | (go_at_call 155;refine (HT _).out.mono ?_;rintro e w' ⟨rfl,rfl⟩)
     | (go_at_call 156;refine (HW _).out.mono ?_;rintro e w' ⟨rfl,rfl⟩)
     | (go_at_call 150;refine (HM _).out.mono ?_;rintro e w' ⟨rfl,rfl⟩)
     | (go_at_call 157;refine (HB _ _ _ _ _ _ _ _ _).out.mono ?_;rintro e w' ⟨rfl,hb⟩))
   all_goals
     go_ret
     refine ⟨zaa (by simp_all),?_⟩
     clear HB HT HW HM
     first
       | (refine zbn ?_ hb ?_
          · repeat (first | exact Below.refl _ _ | (refine Below.setCell ?_ (by simp) _) | (refine Below.alloc ?_ (by simp) _) | refine Below.drew ?_)
          · (simp;try omega))
       | (repeat (first | exact Below.refl _ _ | (refine Below.setCell ?_ (by simp) _) | (refine Below.alloc ?_ (by simp) _) | refine Below.drew ?_))
 · have e:Pr.partB 6 t n x y len = (inW n (-1000000) 1000000 && Pr.bareB t 0 x y len):=by simp [Pr.partB,inW]
   rw [e]
   clear e
   have HW:=fun w=>Lib.hid (zcb n (-1000000) 1000000 w)
   generalize inW n (-1000000) 1000000 = r1 at *
   go_enter Tryz.func120,Tryz.ntmps120
   go_wp2_with fail
   go_region_held3 (fun w'=>w'.cell? ⟨w.heap.size,0,none⟩ = some (.int .i64 6) ∧ w'.cell? ⟨w.heap.size,1,none⟩ = some (.string t) ∧ w'.cell? ⟨w.heap.size,2,none⟩ = some (.int .i64 n) ∧ w'.cell? ⟨w.heap.size,3,none⟩ = some (.complex .f64 x y) ∧ w'.cell? ⟨w.heap.size,4,none⟩ = some (.slice oa len cap)) (go_keep) (fail)
   go_wp2_with (first
     | (go_at_call 155;refine (HT _).out.mono ?_;rintro e w' ⟨rfl,rfl⟩)
     | (go_at_call 156;refine (HW _).out.mono ?_;rintro e w' ⟨rfl,rfl⟩)
     | (go_at_call 150;refine (HM _).out.mono ?_;rintro e w' ⟨rfl,rfl⟩)
     | (go_at_call 157;refine (HB _ _ _ _ _ _ _ _ _).out.mono ?_;rintro e w' ⟨rfl,hb⟩))
   all_goals
     go_ret
     refine ⟨zaa (by simp_all),?_⟩
     clear HB HT HW HM
     first
       | (refine zbn ?_ hb ?_
          · repeat (first | exact Below.refl _ _ | (refine Below.setCell ?_ (by simp) _) | (refine Below.alloc ?_ (by simp) _) | refine Below.drew ?_)
          · (simp;try omega))
       | (repeat (first | exact Below.refl _ _ | (refine Below.setCell ?_ (by simp) _) | (refine Below.alloc ?_ (by simp) _) | refine Below.drew ?_))
 · have e:Pr.partB 7 t n x y len = ((mayB x y && inW n 0 8000000) && Pr.bareB t 0 0 0 len):=by simp [Pr.partB,inW]
   rw [e]
   clear e
   have HW:=fun w=>Lib.hid (zcb n 0 8000000 w)
   generalize inW n 0 8000000 = r1 at *
   generalize mayB x y = r2 at *
   go_enter Tryz.func120,Tryz.ntmps120
   go_wp2_with fail
   go_region_held3 (fun w'=>w'.cell? ⟨w.heap.size,0,none⟩ = some (.int .i64 7) ∧ w'.cell? ⟨w.heap.size,1,none⟩ = some (.string t) ∧ w'.cell? ⟨w.heap.size,2,none⟩ = some (.int .i64 n) ∧ w'.cell? ⟨w.heap.size,3,none⟩ = some (.complex .f64 x y) ∧ w'.cell? ⟨w.heap.size,4,none⟩ = some (.slice oa len cap)) (go_keep) (fail)
   go_wp2_with (first
     | (go_at_call 155;refine (HT _).out.mono ?_;rintro e w' ⟨rfl,rfl⟩)
     | (go_at_call 156;refine (HW _).out.mono ?_;rintro e w' ⟨rfl,rfl⟩)
     | (go_at_call 150;refine (HM _).out.mono ?_;rintro e w' ⟨rfl,rfl⟩)
     | (go_at_call 157;refine (HB _ _ _ _ _ _ _ _ _).out.mono ?_;rintro e w' ⟨rfl,hb⟩))
   all_goals
     go_ret
     refine ⟨zaa (by simp_all),?_⟩
     clear HB HT HW HM
     first
       | (refine zbn ?_ hb ?_
          · repeat (first | exact Below.refl _ _ | (refine Below.setCell ?_ (by simp) _) | (refine Below.alloc ?_ (by simp) _) | refine Below.drew ?_)
          · (simp;try omega))
       | (repeat (first | exact Below.refl _ _ | (refine Below.setCell ?_ (by simp) _) | (refine Below.alloc ?_ (by simp) _) | refine Below.drew ?_))
 · have e:Pr.partB 8 t n x y len = Pr.bareB t n x y 0:=by simp [Pr.partB,inW]
   rw [e]
   clear e
   go_enter Tryz.func120,Tryz.ntmps120
   go_wp2_with fail
   go_region_held3 (fun w'=>w'.cell? ⟨w.heap.size,0,none⟩ = some (.int .i64 8) ∧ w'.cell? ⟨w.heap.size,1,none⟩ = some (.string t) ∧ w'.cell? ⟨w.heap.size,2,none⟩ = some (.int .i64 n) ∧ w'.cell? ⟨w.heap.size,3,none⟩ = some (.complex .f64 x y) ∧ w'.cell? ⟨w.heap.size,4,none⟩ = some (.slice oa len cap)) (go_keep) (fail)
   go_wp2_with (first
     | (go_at_call 155;refine (HT _).out.mono ?_;rintro e w' ⟨rfl,rfl⟩)
     | (go_at_call 156;refine (HW _ _ _).out.mono ?_;rintro e w' ⟨rfl,rfl⟩)
     | (go_at_call 150;refine (HM _).out.mono ?_;rintro e w' ⟨rfl,rfl⟩)
     | (go_at_call 157;refine (HB _ _ _ _ _ _ _ _ _).out.mono ?_;rintro e w' ⟨rfl,hb⟩))
   all_goals
     go_ret
     refine ⟨zaa (by simp_all),?_⟩
     clear HB HT HW HM
     first
       | (refine zbn ?_ hb ?_
          · repeat (first | exact Below.refl _ _ | (refine Below.setCell ?_ (by simp) _) | (refine Below.alloc ?_ (by simp) _) | refine Below.drew ?_)
          · (simp;try omega))
       | (repeat (first | exact Below.refl _ _ | (refine Below.setCell ?_ (by simp) _) | (refine Below.alloc ?_ (by simp) _) | refine Below.drew ?_))
 · have e:Pr.partB 9 t n x y len = Pr.bareB t n x y 0:=by simp [Pr.partB,inW]
   rw [e]
   clear e
   go_enter Tryz.func120,Tryz.ntmps120
   go_wp2_with fail
   go_region_held3 (fun w'=>w'.cell? ⟨w.heap.size,0,none⟩ = some (.int .i64 9) ∧ w'.cell? ⟨w.heap.size,1,none⟩ = some (.string t) ∧ w'.cell? ⟨w.heap.size,2,none⟩ = some (.int .i64 n) ∧ w'.cell? ⟨w.heap.size,3,none⟩ = some (.complex .f64 x y) ∧ w'.cell? ⟨w.heap.size,4,none⟩ = some (.slice oa len cap)) (go_keep) (fail)
   go_wp2_with (first
     | (go_at_call 155;refine (HT _).out.mono ?_;rintro e w' ⟨rfl,rfl⟩)
     | (go_at_call 156;refine (HW _ _ _).out.mono ?_;rintro e w' ⟨rfl,rfl⟩)
     | (go_at_call 150;refine (HM _).out.mono ?_;rintro e w' ⟨rfl,rfl⟩)
     | (go_at_call 157;refine (HB _ _ _ _ _ _ _ _ _).out.mono ?_;rintro e w' ⟨rfl,hb⟩))
   all_goals
     go_ret
     refine ⟨zaa (by simp_all),?_⟩
     clear HB HT HW HM
     first
       | (refine zbn ?_ hb ?_
          · repeat (first | exact Below.refl _ _ | (refine Below.setCell ?_ (by simp) _) | (refine Below.alloc ?_ (by simp) _) | refine Below.drew ?_)
          · (simp;try omega))
       | (repeat (first | exact Below.refl _ _ | (refine Below.setCell ?_ (by simp) _) | (refine Below.alloc ?_ (by simp) _) | refine Below.drew ?_))
 · have e:Pr.partB 10 t n x y len = (decide (len = 1) && Pr.bareB t n x y 0):=by simp [Pr.partB,inW]
   rw [e]
   clear e
   have f2:=zvn len
   generalize decide (len = 1) = r1 at *
   go_enter Tryz.func120,Tryz.ntmps120
   go_wp2_with fail
   go_region_held3 (fun w'=>w'.cell? ⟨w.heap.size,0,none⟩ = some (.int .i64 10) ∧ w'.cell? ⟨w.heap.size,1,none⟩ = some (.string t) ∧ w'.cell? ⟨w.heap.size,2,none⟩ = some (.int .i64 n) ∧ w'.cell? ⟨w.heap.size,3,none⟩ = some (.complex .f64 x y) ∧ w'.cell? ⟨w.heap.size,4,none⟩ = some (.slice oa len cap)) (go_keep) (fail)
   go_wp2_with (first
     | (go_at_call 155;refine (HT _).out.mono ?_;rintro e w' ⟨rfl,rfl⟩)
     | (go_at_call 156;refine (HW _ _ _).out.mono ?_;rintro e w' ⟨rfl,rfl⟩)
     | (go_at_call 150;refine (HM _).out.mono ?_;rintro e w' ⟨rfl,rfl⟩)
     | (go_at_call 157;refine (HB _ _ _ _ _ _ _ _ _).out.mono ?_;rintro e w' ⟨rfl,hb⟩))
   all_goals
     go_ret
     refine ⟨zaa (by simp_all),?_⟩
     clear HB HT HW HM
     first
       | (refine zbn ?_ hb ?_
          · repeat (first | exact Below.refl _ _ | (refine Below.setCell ?_ (by simp) _) | (refine Below.alloc ?_ (by simp) _) | refine Below.drew ?_)
          · (simp;try omega))
       | (repeat (first | exact Below.refl _ _ | (refine Below.setCell ?_ (by simp) _) | (refine Below.alloc ?_ (by simp) _) | refine Below.drew ?_))
 · have e:Pr.partB op t n x y len = false:=by simp [Pr.partB,n1,n2,n3,n4,n5,n6,n7,n8,n9,n10]
   rw [e]
   clear e
   go_enter Tryz.func120,Tryz.ntmps120
   go_wp2_with fail
   go_region_held3 (fun w'=>w'.cell? ⟨w.heap.size,0,none⟩ = some (.int .i64 op) ∧ w'.cell? ⟨w.heap.size,1,none⟩ = some (.string t) ∧ w'.cell? ⟨w.heap.size,2,none⟩ = some (.int .i64 n) ∧ w'.cell? ⟨w.heap.size,3,none⟩ = some (.complex .f64 x y) ∧ w'.cell? ⟨w.heap.size,4,none⟩ = some (.slice oa len cap)) (go_keep) (fail)
   go_wp2_with (first
     | (go_at_call 155;refine (HT _).out.mono ?_;rintro e w' ⟨rfl,rfl⟩)
     | (go_at_call 156;refine (HW _ _ _).out.mono ?_;rintro e w' ⟨rfl,rfl⟩)
     | (go_at_call 150;refine (HM _).out.mono ?_;rintro e w' ⟨rfl,rfl⟩)
     | (go_at_call 157;refine (HB _ _ _ _ _ _ _ _ _).out.mono ?_;rintro e w' ⟨rfl,hb⟩))
   all_goals
     go_ret
     refine ⟨rfl,?_⟩
     repeat (first | exact Below.refl _ _ | (refine Below.setCell ?_ (by simp) _) | (refine Below.alloc ?_ (by simp) _) | refine Below.drew ?_)
end Go.Proofs.YthnllikalobmeaaGreat
namespace Go.Proofs.YthnllikalobmeaaGreat
set_option linter.unusedVariables false
set_option linter.unusedSimpArgs false
set_option maxRecDepth 100000
set_option maxHeartbeats 8000000
open Go
section
variable {P:Program} {ops:Array Oper} {Q:Exit → Act → World → Prop} {md:Region.Mode} {S T:World → Prop} {D:Nat → Bool}
def zb5 (P:Program) (md:Region.Mode) (ops:Array Oper) (Q:Exit → Act → World → Prop) (S T:World → Prop) (D:Nat → Bool) (fuel:Nat) (listed:Array Bool) (a:Act) (w:World):Prop :=
 match fuel with
 | 0=>Region.ready md ops listed = [] ∧ Q .normal a w
 | n + 1=>(Region.ready md ops listed = [] → Q .normal a w) ∧ ∀ i ∈ Region.ready md ops listed,
     wpOp P ops Q i (fun a' w'=>(D i = false → S w → S w') ∧ (T w → T w') ∧ zb5 P md ops Q S T D n (listed.setIfInBounds i true) a' w') a w
theorem zra:∀ (n:Nat) {l:Array Bool} {a:Act} {w:World},zb5 P md ops Q S T D n l a w → wpAny P md ops Q n l a w:=by
 intro n
 induction n with
 | zero=>intro l a w h;exact h
 | succ n ih=>intro l a w h;exact ⟨h.1,fun i hi=>wpOp_mono (fun a' w' hk=>ih hk.2.2) (h.2 i hi)⟩
theorem zns {i:Nat} {oi:Oper} {v:Value} (hi:ops[i]? = some oi) (hsel:∀ (j:Nat) (o:Oper) cs b,ops[j]? = some o → o.op ≠ .select cs b) (hQ:∀ c a w,Q (.panic c) (a.put oi.dst v) w → Q (.panic c) a w) (hW:zjq md ops D i = true) :
   ∀ (n:Nat) {l:Array Bool} {a:Act} {w:World},(∀ j oj,ops[j]? = some oj → j ≠ i → l.getD j true = false → (∀ e ∈ oj.after,Region.binds md e = true → e.on ≠ i) → oi.apart ops oj = true) →
     i ∈ Region.ready md ops l → YieldsIf P ops S oi v a → S w → zb5 P md ops Q S T D n (l.setIfInBounds i true) (a.put oi.dst v) w → zb5 P md ops Q S T D (n + 1) l a w:=by
 intro n
 induction n with
 | zero =>
   intro l a w _ hr hy hS H
   refine ⟨fun h=>(by rw [h] at hr;cases hr),fun j hj=>?_⟩
   rcases Decidable.em (j = i) with e | e
   · subst e;exact hy.wpOp hi hS ⟨fun _ h=>h,fun h=>h,H⟩
   · have hm:=ready_mono hj e
     rw [H.1] at hm;cases hm
 | succ n ih =>
   intro l a w hfree hr hy hS H
   refine ⟨fun h=>(by rw [h] at hr;cases hr),fun j hj=>?_⟩
   rcases Decidable.em (j = i) with e | e
   · subst e;exact hy.wpOp hi hS ⟨fun _ h=>h,fun h=>h,H⟩
   · obtain ⟨hun,oj,hoj,hall⟩:=mem_ready.1 hj
     have hli:=(mem_ready.1 hr).1
     have hDj:=zow hW hj hoj hli
     have hno:∀ k ∈ oj.after,Region.binds md k = true → k.on ≠ i:=by
       intro k hk hb hki
       have h1:=hall k hk hb
       rw [hki] at h1
       rcases Nat.lt_or_ge i l.size with hl | hl
       · simp [hl] at hli h1;rw [hli] at h1;cases h1
       · simp [Array.getElem?_eq_none hl] at hli
     have hstep:=wpOp_putIf hoj (hfree j oj hoj e hun hno) (fun cs b=>hsel i oi cs b hi) (fun cs b=>hsel j oj cs b hoj) hQ hy (H.2 j (ready_mono hj e))
     refine wpOp_mono (fun a' w' hk=>⟨hk.2.1,hk.2.2.1,ih ?_ (ready_mono hr (Ne.symm e)) hk.1 (hk.2.1 hDj hS) ?_⟩) hstep
     · intro k ok hok hki hku hkno
       refine hfree k ok hok hki ?_ hkno
       rcases Decidable.em (j = k) with ejk | ejk
       · subst ejk;exact hun
       · rw [getD_set_ne true ejk] at hku;exact hku
     · rw [Array.setIfInBounds_comm _ _ e];exact hk.2.2.2
theorem zmq {i:Nat} {oi:Oper} {v:Value} (hi:ops[i]? = some oi) (hsel:∀ (j:Nat) (o:Oper) cs b,ops[j]? = some o → o.op ≠ .select cs b) (hQ:∀ c a w,Q (.panic c) (a.put oi.dst v) w → Q (.panic c) a w) :
   ∀ (n:Nat) {l:Array Bool} {a:Act} {w:World},(∀ j oj,ops[j]? = some oj → j ≠ i → l.getD j true = false → (∀ e ∈ oj.after,Region.binds md e = true → e.on ≠ i) → oi.apart ops oj = true) →
     i ∈ Region.ready md ops l → YieldsIf P ops T oi v a → T w → zb5 P md ops Q S T D n (l.setIfInBounds i true) (a.put oi.dst v) w → zb5 P md ops Q S T D (n + 1) l a w:=by
 intro n
 induction n with
 | zero =>
   intro l a w _ hr hy hT H
   refine ⟨fun h=>(by rw [h] at hr;cases hr),fun j hj=>?_⟩
   rcases Decidable.em (j = i) with e | e
   · subst e;exact hy.wpOp hi hT ⟨fun _ h=>h,fun h=>h,H⟩
   · have hm:=ready_mono hj e
     rw [H.1] at hm;cases hm
 | succ n ih =>
   intro l a w hfree hr hy hT H
   refine ⟨fun h=>(by rw [h] at hr;cases hr),fun j hj=>?_⟩
   rcases Decidable.em (j = i) with e | e
   · subst e;exact hy.wpOp hi hT ⟨fun _ h=>h,fun h=>h,H⟩
   · obtain ⟨hun,oj,hoj,hall⟩:=mem_ready.1 hj
     have hli:=(mem_ready.1 hr).1
     have hno:∀ k ∈ oj.after,Region.binds md k = true → k.on ≠ i:=by
       intro k hk hb hki
       have h1:=hall k hk hb
       rw [hki] at h1
       rcases Nat.lt_or_ge i l.size with hl | hl
       · simp [hl] at hli h1;rw [hli] at h1;cases h1
       · simp [Array.getElem?_eq_none hl] at hli
     have hstep:=wpOp_putIf hoj (hfree j oj hoj e hun hno) (fun cs b=>hsel i oi cs b hi) (fun cs b=>hsel j oj cs b hoj) hQ hy (H.2 j (ready_mono hj e))
     refine wpOp_mono (fun a' w' hk=>⟨hk.2.1,hk.2.2.1,ih ?_ (ready_mono hr (Ne.symm e)) hk.1 (hk.2.2.1 hT) ?_⟩) hstep
     · intro k ok hok hki hku hkno
       refine hfree k ok hok hki ?_ hkno
       rcases Decidable.em (j = k) with ejk | ejk
       · subst ejk;exact hun
       · rw [getD_set_ne true ejk] at hku;exact hku
     · rw [Array.setIfInBounds_comm _ _ e];exact hk.2.2.2
theorem zdg {i:Nat} {oi:Oper} {v:Value} {n:Nat} {l:Array Bool} {a:Act} {w:World} (hi:ops[i]? = some oi) (hs:Region.noSelect ops = true) (hf:Region.free md ops l i = true) (hr:(Region.ready md ops l).contains i = true) (hW:zjq md ops D i = true)
   (hQ:∀ c a w,Q (.panic c) (a.put oi.dst v) w → Q (.panic c) a w) (hy:YieldsIf P ops S oi v a) (hS:S w) (h:zb5 P md ops Q S T D n (l.setIfInBounds i true) (a.put oi.dst v) w):zb5 P md ops Q S T D (n + 1) l a w :=
 zns hi (Region.noSelect_spec hs) hQ hW n (Region.free_spec hi hf) (by simpa using hr) hy hS h
theorem zag {i:Nat} {oi:Oper} {v:Value} {n:Nat} {l:Array Bool} {a:Act} {w:World} (hi:ops[i]? = some oi) (hs:Region.noSelect ops = true) (hf:Region.free md ops l i = true) (hr:(Region.ready md ops l).contains i = true)
   (hQ:∀ c a w,Q (.panic c) (a.put oi.dst v) w → Q (.panic c) a w) (hy:YieldsIf P ops T oi v a) (hT:T w) (h:zb5 P md ops Q S T D n (l.setIfInBounds i true) (a.put oi.dst v) w):zb5 P md ops Q S T D (n + 1) l a w :=
 zmq hi (Region.noSelect_spec hs) hQ n (Region.free_spec hi hf) (by simpa using hr) hy hT h
theorem zaz {i:Nat} {o:Oper} {n:Nat} {l:Array Bool} {a:Act} {w:World} (hr:Region.ready md ops l = [i]) (ho:ops[i]? = some o)
   (h:∀ K:Act → World → Prop,Shut (∀ a w,(D i = false → S w) → T w → ((D i = false → S w) → T w → zb5 P md ops Q S T D n (l.setIfInBounds i true) a w) → K a w) → if Region.wanted o (yielded ops a.tmps) = true then Oper.wp P o a w K Q else K (a.put o.dst undef) w) :
   zb5 P md ops Q S T D (n + 1) l a w:=by
 refine ⟨fun h0=>(by rw [hr] at h0;cases h0),fun j hj=>?_⟩
 rw [hr] at hj
 have e:j = i:=by simpa using hj
 subst e
 exact wpOp_step ho (fun K hK=>h K (fun a w h1 h2 h3=>hK a w ⟨fun hd _=>h1 hd,fun _=>h2,h3 h1 h2⟩))
theorem zdf {l:Array Bool} {a:Act} {w:World} (hr:Region.ready md ops l = []) (h:Q .normal a w):∀ n,zb5 P md ops Q S T D n l a w
 | 0=>⟨hr,h⟩
 | _ + 1=>⟨fun _=>h,by rw [hr];simp⟩
theorem zcw {id:Nat} {a:Act} {w:World} (hm:P.follows .mixedOrders = true) (hS:S w.drew) (hT:T w.drew) (h:S w.drew → T w.drew → zb5 P .any ops Q S T D ops.size (Array.replicate ops.size false) a w.drew):(Code.region id ops true).wp P Q a w :=
 wp_region_any hm (zra _ (h hS hT))
end
end Go.Proofs.YthnllikalobmeaaGreat
namespace Go.Proofs.YthnllikalobmeaaGreat
set_option linter.unusedVariables false
set_option linter.unusedSimpArgs false
set_option maxRecDepth 100000
set_option maxHeartbeats 8000000
open Go.RowKit
end Go.Proofs.YthnllikalobmeaaGreat
