/- Joined: Part, RefSize, RefHas, OpenA. -/
import Derived.Test.YtodfhabkdaiopaaGreatJ11
import Derived.Test.YtodfhabkdaiopaaGreatJ01
import Derived.Test.YtodfhabkdaiopaaGreatJ05
import Derived.Deep.RegionHeld3
import Derived.Deep.DrawnRows
import Derived.Test.YtodfhabkdaiopaaGreatJ12
import Derived.Test.YtodfhabkdaiopaaGreatJ09
import Derived.Deep.CutBlock
import Derived.Deep.DeepCutAuto
import Derived.Test.YtodfhabkdaiopaaGreatRows
import Derived.WalkKit
import Derived.ProofKit
import Derived.OpenShut
import Derived.ShutString
import Derived.ChangeOld
import Derived.Below
import Derived.Deep.Fields
import Derived.WalkLawsBesides
namespace Go.Proofs.YtodfhabkdaiopaaGreat
set_option linter.unusedVariables false
set_option linter.unusedSimpArgs false
set_option maxRecDepth 100000
set_option maxHeartbeats 8000000
open Go.RowKit
theorem y14h {p:Prop} (h:p):Go.RowKit.Hid p:=Lib.hid h
def inW (n a b:Int):Bool:=decide (a≤n) && decide (n≤b)
theorem zc6 (n a b:Int) (w:World) :
   Calls Tryz.prog 225 #[.int .i64 n,.int .i64 a,.int .i64 b] w fun e w'=>e=.returned (.bool (inW n a b))∧w=w':=by
 unfold inW
 by_cases h:a≤n <;> by_cases h':n≤b <;>
 ( go_enter Tryz.func225,Tryz.ntmps225
   go_wp2
   go_ret
   exact ⟨zac (by simp [h,h']),rfl⟩ )
theorem zu6:txtB ⟨#[]⟩=true:=by decide
theorem zl0 (s:ByteArray) (w:World) :
   Calls Tryz.prog 224 #[.string s] w fun e w'=>e=.returned (.bool (txtB s))∧w=w':=by
 have H:=y14h (zg3 s w)
 by_cases h:s.size=0
 · have e:=zhx s h
   subst e
   rw [zu6]
   go_enter Tryz.func224,Tryz.ntmps224
   go_wp2
   go_ret
   exact ⟨rfl,rfl⟩
 · have e:zbd s=txtB s:=by simp [zbd];omega
   rw [e] at H
   clear e
   have h1:s.toList ≠ []:=by
     intro hz
     exact h (by have:=congrArg List.length hz;rw [zjl] at this;simpa using this)
   have h2:s.toList.isEmpty=false:=by rw [List.isEmpty_eq_false_iff];exact h1
   generalize txtB s=r at *
   clear h
   go_enter Tryz.func224,Tryz.ntmps224
   go_wp2_with (go_at_call 151;refine (H.out).mono ?_;rintro e w' ⟨rfl,rfl⟩)
   go_ret
   exact ⟨rfl,rfl⟩
theorem zwa (k:Nat):((k:Int) == 0)=decide (k=0):=by
 rw [Bool.eq_iff_iff];simp
theorem zqw (k:Nat):((k:Int) == 1)=decide (k=1):=by
 rw [Bool.eq_iff_iff];simp;omega
theorem zrc (op:Int) (t:ByteArray) (n:Int) (x y:Nat) (oa:Option Addr) (len cap:Nat) (w:World) :
   Calls Tryz.prog 226 #[.agg #[.int .i64 op,.string t,.int .i64 n,.complex .f64 x y,.slice oa len cap]] w fun e w'=>e=.returned (.bool (Pr.bareB t n x y len))∧Below w.heap.size w w':=by
 have f1:∀ x y,(FloatKind.f64.format.order x y == some .eq)=feq x y:=fun _ _=>rfl
 go_enter Tryz.func226,Tryz.ntmps226
 go_wp2
 all_goals
   go_ret
   exact ⟨zac (by simp_all [Pr.bareB,zwa]),(Below.refl _ _).alloc (Nat.le_refl _) _⟩
attribute [local go_sem ↓] Go.wp_at_zero Go.wp_at_succ
theorem zlz (op:Int) (t:ByteArray) (n:Int) (x y:Nat) (oa:Option Addr) (len cap:Nat) (w:World) :
   Calls Tryz.prog 184 #[.agg #[.int .i64 op,.string t,.int .i64 n,.complex .f64 x y,.slice oa len cap]] w fun e w'=>e=.returned (.bool (Pr.partB op t n x y len))∧Below w.heap.size w w':=by
 have HB:=fun op t n x y oa len cap w=>y14h (zrc op t n x y oa len cap w)
 have HT:=fun w=>y14h (zl0 t w)
 have HW:=fun a b w=>y14h (zc6 n a b w)
 have HM:=fun w=>y14h (zdj x y w)
 have hop:op=1 ∨ op=2 ∨ op=3 ∨ op=4 ∨ op=5 ∨ op=6 ∨ op=7 ∨ op=8 ∨ op=9 ∨ op=10 ∨ (op ≠ 1∧op ≠ 2∧op ≠ 3∧op ≠ 4∧op ≠ 5∧op ≠ 6∧op ≠ 7∧op ≠ 8∧op ≠ 9∧op ≠ 10):=by omega
 rcases hop with rfl | rfl | rfl | rfl | rfl | rfl | rfl | rfl | rfl | rfl | ⟨n1,n2,n3,n4,n5,n6,n7,n8,n9,n10⟩
 · have e:Pr.partB 1 t n x y len=Pr.bareB t n x y len:=by simp [Pr.partB,inW]
   rw [e]
   clear e
   go_enter Tryz.func184,Tryz.ntmps184
   go_wp2_with fail
   go_region_held3 (fun w'=>w'.cell? ⟨w.heap.size,0,none⟩=some (.int .i64 1)∧w'.cell? ⟨w.heap.size,1,none⟩=some (.string t)∧w'.cell? ⟨w.heap.size,2,none⟩=some (.int .i64 n)∧w'.cell? ⟨w.heap.size,3,none⟩=some (.complex .f64 x y)∧w'.cell? ⟨w.heap.size,4,none⟩=some (.slice oa len cap)) (go_keep) (fail)
   go_wp2_with (first
     | (go_at_call 224;refine (HT _).out.mono ?_;rintro e w' ⟨rfl,rfl⟩)
     | (go_at_call 225;refine (HW _ _ _).out.mono ?_;rintro e w' ⟨rfl,rfl⟩)
     | (go_at_call 190;refine (HM _).out.mono ?_;rintro e w' ⟨rfl,rfl⟩)
     | (go_at_call 226;refine (HB _ _ _ _ _ _ _ _ _).out.mono ?_;rintro e w' ⟨rfl,hb⟩))
   all_goals
     go_ret
     refine ⟨zac (by simp_all),?_⟩
     clear HB HT HW HM
     first
       | (refine zci ?_ hb ?_
          · repeat (first | exact Below.refl _ _ | (refine Below.setCell ?_ (by simp) _) | (refine Below.alloc ?_ (by simp) _) | refine Below.drew ?_)
          · (simp;try omega))
       | (repeat (first | exact Below.refl _ _ | (refine Below.setCell ?_ (by simp) _) | (refine Below.alloc ?_ (by simp) _) | refine Below.drew ?_))
 · have e:Pr.partB 2 t n x y len=Pr.bareB t n x y len:=by simp [Pr.partB,inW]
   rw [e]
   clear e
   go_enter Tryz.func184,Tryz.ntmps184
   go_wp2_with fail
   go_region_held3 (fun w'=>w'.cell? ⟨w.heap.size,0,none⟩=some (.int .i64 2)∧w'.cell? ⟨w.heap.size,1,none⟩=some (.string t)∧w'.cell? ⟨w.heap.size,2,none⟩=some (.int .i64 n)∧w'.cell? ⟨w.heap.size,3,none⟩=some (.complex .f64 x y)∧w'.cell? ⟨w.heap.size,4,none⟩=some (.slice oa len cap)) (go_keep) (fail)
   go_wp2_with (first
     | (go_at_call 224;refine (HT _).out.mono ?_;rintro e w' ⟨rfl,rfl⟩)
     | (go_at_call 225;refine (HW _ _ _).out.mono ?_;rintro e w' ⟨rfl,rfl⟩)
     | (go_at_call 190;refine (HM _).out.mono ?_;rintro e w' ⟨rfl,rfl⟩)
     | (go_at_call 226;refine (HB _ _ _ _ _ _ _ _ _).out.mono ?_;rintro e w' ⟨rfl,hb⟩))
   all_goals
     go_ret
     refine ⟨zac (by simp_all),?_⟩
     clear HB HT HW HM
     first
       | (refine zci ?_ hb ?_
          · repeat (first | exact Below.refl _ _ | (refine Below.setCell ?_ (by simp) _) | (refine Below.alloc ?_ (by simp) _) | refine Below.drew ?_)
          · (simp;try omega))
       | (repeat (first | exact Below.refl _ _ | (refine Below.setCell ?_ (by simp) _) | (refine Below.alloc ?_ (by simp) _) | refine Below.drew ?_))
 · have e:Pr.partB 3 t n x y len=(txtB t && Pr.bareB ⟨#[]⟩ n x y len):=by simp [Pr.partB,inW]
   rw [e]
   clear e
   generalize txtB t=r1 at *
   go_enter Tryz.func184,Tryz.ntmps184
   go_wp2_with fail
   go_region_held3 (fun w'=>w'.cell? ⟨w.heap.size,0,none⟩=some (.int .i64 3)∧w'.cell? ⟨w.heap.size,1,none⟩=some (.string t)∧w'.cell? ⟨w.heap.size,2,none⟩=some (.int .i64 n)∧w'.cell? ⟨w.heap.size,3,none⟩=some (.complex .f64 x y)∧w'.cell? ⟨w.heap.size,4,none⟩=some (.slice oa len cap)) (go_keep) (fail)
   go_wp2_with (first
     | (go_at_call 224;refine (HT _).out.mono ?_;rintro e w' ⟨rfl,rfl⟩)
     | (go_at_call 225;refine (HW _ _ _).out.mono ?_;rintro e w' ⟨rfl,rfl⟩)
     | (go_at_call 190;refine (HM _).out.mono ?_;rintro e w' ⟨rfl,rfl⟩)
     | (go_at_call 226;refine (HB _ _ _ _ _ _ _ _ _).out.mono ?_;rintro e w' ⟨rfl,hb⟩))
   all_goals
     go_ret
     refine ⟨zac (by simp_all),?_⟩
     clear HB HT HW HM
     first
       | (refine zci ?_ hb ?_
          · repeat (first | exact Below.refl _ _ | (refine Below.setCell ?_ (by simp) _) | (refine Below.alloc ?_ (by simp) _) | refine Below.drew ?_)
          · (simp;try omega))
       | (repeat (first | exact Below.refl _ _ | (refine Below.setCell ?_ (by simp) _) | (refine Below.alloc ?_ (by simp) _) | refine Below.drew ?_))
 · have e:Pr.partB 4 t n x y len=(txtB t && Pr.bareB ⟨#[]⟩ n x y len):=by simp [Pr.partB,inW]
   rw [e]
   clear e
   generalize txtB t=r1 at *
   go_enter Tryz.func184,Tryz.ntmps184
   go_wp2_with fail
   go_region_held3 (fun w'=>w'.cell? ⟨w.heap.size,0,none⟩=some (.int .i64 4)∧w'.cell? ⟨w.heap.size,1,none⟩=some (.string t)∧w'.cell? ⟨w.heap.size,2,none⟩=some (.int .i64 n)∧w'.cell? ⟨w.heap.size,3,none⟩=some (.complex .f64 x y)∧w'.cell? ⟨w.heap.size,4,none⟩=some (.slice oa len cap)) (go_keep) (fail)
   go_wp2_with (first
     | (go_at_call 224;refine (HT _).out.mono ?_;rintro e w' ⟨rfl,rfl⟩)
     | (go_at_call 225;refine (HW _ _ _).out.mono ?_;rintro e w' ⟨rfl,rfl⟩)
     | (go_at_call 190;refine (HM _).out.mono ?_;rintro e w' ⟨rfl,rfl⟩)
     | (go_at_call 226;refine (HB _ _ _ _ _ _ _ _ _).out.mono ?_;rintro e w' ⟨rfl,hb⟩))
   all_goals
     go_ret
     refine ⟨zac (by simp_all),?_⟩
     clear HB HT HW HM
     first
       | (refine zci ?_ hb ?_
          · repeat (first | exact Below.refl _ _ | (refine Below.setCell ?_ (by simp) _) | (refine Below.alloc ?_ (by simp) _) | refine Below.drew ?_)
          · (simp;try omega))
       | (repeat (first | exact Below.refl _ _ | (refine Below.setCell ?_ (by simp) _) | (refine Below.alloc ?_ (by simp) _) | refine Below.drew ?_))
 · have e:Pr.partB 5 t n x y len=(inW n (-1000000) 1000000 && Pr.bareB t 0 x y len):=by simp [Pr.partB,inW]
   rw [e]
   clear e
   have HW:=fun w=>y14h (zc6 n (-1000000) 1000000 w)
   generalize inW n (-1000000) 1000000=r1 at *
   go_enter Tryz.func184,Tryz.ntmps184
   go_wp2_with fail
   go_region_held3 (fun w'=>w'.cell? ⟨w.heap.size,0,none⟩=some (.int .i64 5)∧w'.cell? ⟨w.heap.size,1,none⟩=some (.string t)∧w'.cell? ⟨w.heap.size,2,none⟩=some (.int .i64 n)∧w'.cell? ⟨w.heap.size,3,none⟩=some (.complex .f64 x y)∧w'.cell? ⟨w.heap.size,4,none⟩=some (.slice oa len cap)) (go_keep) (fail)
   go_wp2_with (first
     | (go_at_call 224;refine (HT _).out.mono ?_;rintro e w' ⟨rfl,rfl⟩)
     | (go_at_call 225;refine (HW _).out.mono ?_;rintro e w' ⟨rfl,rfl⟩)
     | (go_at_call 190;refine (HM _).out.mono ?_;rintro e w' ⟨rfl,rfl⟩)
     | (go_at_call 226;refine (HB _ _ _ _ _ _ _ _ _).out.mono ?_;rintro e w' ⟨rfl,hb⟩))
   all_goals
     go_ret
     refine ⟨zac (by simp_all),?_⟩
     clear HB HT HW HM
     first
       | (refine zci ?_ hb ?_
          · repeat (first | exact Below.refl _ _ | (refine Below.setCell ?_ (by simp) _) | (refine Below.alloc ?_ (by simp) _) | refine Below.drew ?_)
          · (simp;try omega))
       | (repeat (first | exact Below.refl _ _ | (refine Below.setCell ?_ (by simp) _) | (refine Below.alloc ?_ (by simp) _) | refine Below.drew ?_))
 · have e:Pr.partB 6 t n x y len=(inW n (-1000000) 1000000 && Pr.bareB t 0 x y len):=by simp [Pr.partB,inW]
   rw [e]
   clear e
   have HW:=fun w=>y14h (zc6 n (-1000000) 1000000 w)
   generalize inW n (-1000000) 1000000=r1 at *
   go_enter Tryz.func184,Tryz.ntmps184
   go_wp2_with fail
   go_region_held3 (fun w'=>w'.cell? ⟨w.heap.size,0,none⟩=some (.int .i64 6)∧w'.cell? ⟨w.heap.size,1,none⟩=some (.string t)∧w'.cell? ⟨w.heap.size,2,none⟩=some (.int .i64 n)∧w'.cell? ⟨w.heap.size,3,none⟩=some (.complex .f64 x y)∧w'.cell? ⟨w.heap.size,4,none⟩=some (.slice oa len cap)) (go_keep) (fail)
   go_wp2_with (first
     | (go_at_call 224;refine (HT _).out.mono ?_;rintro e w' ⟨rfl,rfl⟩)
     | (go_at_call 225;refine (HW _).out.mono ?_;rintro e w' ⟨rfl,rfl⟩)
     | (go_at_call 190;refine (HM _).out.mono ?_;rintro e w' ⟨rfl,rfl⟩)
     | (go_at_call 226;refine (HB _ _ _ _ _ _ _ _ _).out.mono ?_;rintro e w' ⟨rfl,hb⟩))
   all_goals
     go_ret
     refine ⟨zac (by simp_all),?_⟩
     clear HB HT HW HM
     first
       | (refine zci ?_ hb ?_
          · repeat (first | exact Below.refl _ _ | (refine Below.setCell ?_ (by simp) _) | (refine Below.alloc ?_ (by simp) _) | refine Below.drew ?_)
          · (simp;try omega))
       | (repeat (first | exact Below.refl _ _ | (refine Below.setCell ?_ (by simp) _) | (refine Below.alloc ?_ (by simp) _) | refine Below.drew ?_))
 · have e:Pr.partB 7 t n x y len=((mayB x y && inW n 0 8000000) && Pr.bareB t 0 0 0 len):=by simp [Pr.partB,inW]
   rw [e]
   clear e
   have HW:=fun w=>y14h (zc6 n 0 8000000 w)
   generalize inW n 0 8000000=r1 at *
   generalize mayB x y=r2 at *
   go_enter Tryz.func184,Tryz.ntmps184
   go_wp2_with fail
   go_region_held3 (fun w'=>w'.cell? ⟨w.heap.size,0,none⟩=some (.int .i64 7)∧w'.cell? ⟨w.heap.size,1,none⟩=some (.string t)∧w'.cell? ⟨w.heap.size,2,none⟩=some (.int .i64 n)∧w'.cell? ⟨w.heap.size,3,none⟩=some (.complex .f64 x y)∧w'.cell? ⟨w.heap.size,4,none⟩=some (.slice oa len cap)) (go_keep) (fail)
   go_wp2_with (first
     | (go_at_call 224;refine (HT _).out.mono ?_;rintro e w' ⟨rfl,rfl⟩)
     | (go_at_call 225;refine (HW _).out.mono ?_;rintro e w' ⟨rfl,rfl⟩)
     | (go_at_call 190;refine (HM _).out.mono ?_;rintro e w' ⟨rfl,rfl⟩)
     | (go_at_call 226;refine (HB _ _ _ _ _ _ _ _ _).out.mono ?_;rintro e w' ⟨rfl,hb⟩))
   all_goals
     go_ret
     refine ⟨zac (by simp_all),?_⟩
     clear HB HT HW HM
     first
       | (refine zci ?_ hb ?_
          · repeat (first | exact Below.refl _ _ | (refine Below.setCell ?_ (by simp) _) | (refine Below.alloc ?_ (by simp) _) | refine Below.drew ?_)
          · (simp;try omega))
       | (repeat (first | exact Below.refl _ _ | (refine Below.setCell ?_ (by simp) _) | (refine Below.alloc ?_ (by simp) _) | refine Below.drew ?_))
 · have e:Pr.partB 8 t n x y len=Pr.bareB t n x y 0:=by simp [Pr.partB,inW]
   rw [e]
   clear e
   go_enter Tryz.func184,Tryz.ntmps184
   go_wp2_with fail
   go_region_held3 (fun w'=>w'.cell? ⟨w.heap.size,0,none⟩=some (.int .i64 8)∧w'.cell? ⟨w.heap.size,1,none⟩=some (.string t)∧w'.cell? ⟨w.heap.size,2,none⟩=some (.int .i64 n)∧w'.cell? ⟨w.heap.size,3,none⟩=some (.complex .f64 x y)∧w'.cell? ⟨w.heap.size,4,none⟩=some (.slice oa len cap)) (go_keep) (fail)
   go_wp2_with (first
     | (go_at_call 224;refine (HT _).out.mono ?_;rintro e w' ⟨rfl,rfl⟩)
     | (go_at_call 225;refine (HW _ _ _).out.mono ?_;rintro e w' ⟨rfl,rfl⟩)
     | (go_at_call 190;refine (HM _).out.mono ?_;rintro e w' ⟨rfl,rfl⟩)
     | (go_at_call 226;refine (HB _ _ _ _ _ _ _ _ _).out.mono ?_;rintro e w' ⟨rfl,hb⟩))
   all_goals
     go_ret
     refine ⟨zac (by simp_all),?_⟩
     clear HB HT HW HM
     first
       | (refine zci ?_ hb ?_
          · repeat (first | exact Below.refl _ _ | (refine Below.setCell ?_ (by simp) _) | (refine Below.alloc ?_ (by simp) _) | refine Below.drew ?_)
          · (simp;try omega))
       | (repeat (first | exact Below.refl _ _ | (refine Below.setCell ?_ (by simp) _) | (refine Below.alloc ?_ (by simp) _) | refine Below.drew ?_))
 · have e:Pr.partB 9 t n x y len=Pr.bareB t n x y 0:=by simp [Pr.partB,inW]
   rw [e]
   clear e
   go_enter Tryz.func184,Tryz.ntmps184
   go_wp2_with fail
   go_region_held3 (fun w'=>w'.cell? ⟨w.heap.size,0,none⟩=some (.int .i64 9)∧w'.cell? ⟨w.heap.size,1,none⟩=some (.string t)∧w'.cell? ⟨w.heap.size,2,none⟩=some (.int .i64 n)∧w'.cell? ⟨w.heap.size,3,none⟩=some (.complex .f64 x y)∧w'.cell? ⟨w.heap.size,4,none⟩=some (.slice oa len cap)) (go_keep) (fail)
   go_wp2_with (first
     | (go_at_call 224;refine (HT _).out.mono ?_;rintro e w' ⟨rfl,rfl⟩)
     | (go_at_call 225;refine (HW _ _ _).out.mono ?_;rintro e w' ⟨rfl,rfl⟩)
     | (go_at_call 190;refine (HM _).out.mono ?_;rintro e w' ⟨rfl,rfl⟩)
     | (go_at_call 226;refine (HB _ _ _ _ _ _ _ _ _).out.mono ?_;rintro e w' ⟨rfl,hb⟩))
   all_goals
     go_ret
     refine ⟨zac (by simp_all),?_⟩
     clear HB HT HW HM
     first
       | (refine zci ?_ hb ?_
          · repeat (first | exact Below.refl _ _ | (refine Below.setCell ?_ (by simp) _) | (refine Below.alloc ?_ (by simp) _) | refine Below.drew ?_)
          · (simp;try omega))
       | (repeat (first | exact Below.refl _ _ | (refine Below.setCell ?_ (by simp) _) | (refine Below.alloc ?_ (by simp) _) | refine Below.drew ?_))
 · have e:Pr.partB 10 t n x y len=(decide (len=1) && Pr.bareB t n x y 0):=by simp [Pr.partB,inW]
   rw [e]
   clear e
   have f2:=zqw len
   generalize decide (len=1)=r1 at *
   go_enter Tryz.func184,Tryz.ntmps184
   go_wp2_with fail
   go_region_held3 (fun w'=>w'.cell? ⟨w.heap.size,0,none⟩=some (.int .i64 10)∧w'.cell? ⟨w.heap.size,1,none⟩=some (.string t)∧w'.cell? ⟨w.heap.size,2,none⟩=some (.int .i64 n)∧w'.cell? ⟨w.heap.size,3,none⟩=some (.complex .f64 x y)∧w'.cell? ⟨w.heap.size,4,none⟩=some (.slice oa len cap)) (go_keep) (fail)
   go_wp2_with (first
     | (go_at_call 224;refine (HT _).out.mono ?_;rintro e w' ⟨rfl,rfl⟩)
     | (go_at_call 225;refine (HW _ _ _).out.mono ?_;rintro e w' ⟨rfl,rfl⟩)
     | (go_at_call 190;refine (HM _).out.mono ?_;rintro e w' ⟨rfl,rfl⟩)
     | (go_at_call 226;refine (HB _ _ _ _ _ _ _ _ _).out.mono ?_;rintro e w' ⟨rfl,hb⟩))
   all_goals
     go_ret
     refine ⟨zac (by simp_all),?_⟩
     clear HB HT HW HM
     first
       | (refine zci ?_ hb ?_
          · repeat (first | exact Below.refl _ _ | (refine Below.setCell ?_ (by simp) _) | (refine Below.alloc ?_ (by simp) _) | refine Below.drew ?_)
          · (simp;try omega))
       | (repeat (first | exact Below.refl _ _ | (refine Below.setCell ?_ (by simp) _) | (refine Below.alloc ?_ (by simp) _) | refine Below.drew ?_))
 · have e:Pr.partB op t n x y len=false:=by simp [Pr.partB,n1,n2,n3,n4,n5,n6,n7,n8,n9,n10]
   rw [e]
   clear e
   go_enter Tryz.func184,Tryz.ntmps184
   go_wp2_with fail
   go_region_held3 (fun w'=>w'.cell? ⟨w.heap.size,0,none⟩=some (.int .i64 op)∧w'.cell? ⟨w.heap.size,1,none⟩=some (.string t)∧w'.cell? ⟨w.heap.size,2,none⟩=some (.int .i64 n)∧w'.cell? ⟨w.heap.size,3,none⟩=some (.complex .f64 x y)∧w'.cell? ⟨w.heap.size,4,none⟩=some (.slice oa len cap)) (go_keep) (fail)
   go_wp2_with (first
     | (go_at_call 224;refine (HT _).out.mono ?_;rintro e w' ⟨rfl,rfl⟩)
     | (go_at_call 225;refine (HW _ _ _).out.mono ?_;rintro e w' ⟨rfl,rfl⟩)
     | (go_at_call 190;refine (HM _).out.mono ?_;rintro e w' ⟨rfl,rfl⟩)
     | (go_at_call 226;refine (HB _ _ _ _ _ _ _ _ _).out.mono ?_;rintro e w' ⟨rfl,hb⟩))
   all_goals
     go_ret
     refine ⟨rfl,?_⟩
     repeat (first | exact Below.refl _ _ | (refine Below.setCell ?_ (by simp) _) | (refine Below.alloc ?_ (by simp) _) | refine Below.drew ?_)
end Go.Proofs.YtodfhabkdaiopaaGreat
namespace Go.Proofs.YtodfhabkdaiopaaGreat
set_option linter.unusedVariables false
set_option linter.unusedSimpArgs false
set_option maxRecDepth 100000
set_option maxHeartbeats 8000000
open Go.RowKit
theorem znj (p:Pr):∀ (v:Value) (w:World),LP w p v→p.size≤1000 →
   Calls Tryz.prog 130 #[.agg #[.int .i64 p.op,.string p.text,.int .i64 p.n,.complex .f64 p.x p.y,v]] w fun e w'=>e=.returned (.int .i64 (p.size:Nat))∧Below w.heap.size w w':=by
 induction p using Pr.ind with
 | h op t n x y kids ih =>
   intro v w hL hsz
   obtain ⟨oa,cap,b,o,V,rfl,ht,hl,hc,hn,hcell,hrec⟩:=zba hL
   simp only [Pr.kids_node,Pr.text_node,Pr.op_node,Pr.n_node,Pr.x_node,Pr.y_node,Pr.size,Pr.depth] at *
   unfold maxLen at hc
   have h1000:=Pr.len_le_sizes kids
   have HC:=y14h hcell
   have HR:=y14h hrec
   have HN:=y14h hn
   have HI:=y14h ih
   clear hL hcell hrec hn ih
   generalize hlen:kids.length=len at *
   have HLEN:=y14h hlen
   clear hlen
   go_enter Tryz.func130,Tryz.ntmps130
   go_wp2_with fail
   go_loopw [3,4] (fun n' i wr=>zsw kids len (fun l=>1 + Pr.sizes l) (w.alloc (.cells #[.int .i64 op,.string t,.int .i64 n,.complex .f64 x y,.slice oa len cap] 32)) n' i wr) (fun _ i _=>len - (intOf i).toNat)
   case atStart=>exact ⟨0,1,Nat.zero_le _,rfl,rfl,by omega,by simp [Hid,Pr.sizes,Pr.depths],Below.refl _ _⟩
   case round =>
     obtain ⟨k,s,hk,rfl,rfl,hs,HS,hb⟩:=hrel
     have g:=(Has.new w #[.int .i64 op,.string t,.int .i64 n,.complex .f64 x y,.slice oa len cap] 32).below hb (by simp)
     by_cases hlt:k < len
     · obtain ⟨q,hq⟩:∃ q,kids[k]?=some q:=⟨_,List.getElem?_eq_getElem (by rw [HLEN.out];exact hlt)⟩
       obtain ⟨rfl,hB⟩:=HN.out (by omega)
       obtain ⟨oq,cq,hV⟩:=zao (HR.out k q hq)
       have hbw:Below w.heap.size w wr:=((Below.refl _ _).alloc (Nat.le_refl _) _).trans (hb.mono (by simp))
       obtain ⟨c0,c1,c2,c3,c4⟩:=zce (w:=wr) (fun j u hu=>(hbw.cell (p:=⟨b,o + k * 5 + j,none⟩) hB).trans (HC.out k q hq j u hu))
       have L0:=(HR.out k q hq).later hbw (Nat.le_refl _)
       rw [hV] at c4 L0
       have hqs:=Pr.size_mem (List.mem_of_getElem? hq)
       have hqd:=Pr.depth_le_size q
       have CC:=fun w' h=>y14h (HI.out q (List.mem_of_getElem? hq) (.slice oq q.kids.length cq) w' h (by omega))
       have L1:=fun ob=>y14h (L0.atAlloc ob)
       have LW:=y14h L0
       have h3:=Pr.sizes_take hq
       have h4:=Pr.sizes_take_le kids (k + 1)
       have h5:=Pr.depths_take hq
       have h7:=Pr.depth_le_size (.node op t n x y kids)
       have h8:=Pr.depths_take_le kids (k + 1)
       simp only [Pr.size,Pr.depth] at h7
       have h6:s=1 + Pr.sizes (kids.take k):=HS.out
       have hs1:s + q.size≤1000:=by rw [h3] at h4;omega
       have HS1:=y14h (show s + q.size=1 + Pr.sizes (kids.take (k + 1)) by rw [h3];omega)
       have HB:=y14h hb
       have HQ:=y14h hq
       clear hb hbw hq L0 h3 h4 h5 h6 h7 h8 hV
       have l:=g.cell
       have z:=g.lt
       clear g
       go_wp2_with (go_at_call 130;refine (CC _ LW.out).out.mono ?_;rintro e w' ⟨rfl,hb'⟩)
       all_goals
         go_roundw
         case rel=>exact ⟨k + 1,s + q.size,by omega,by go_num,by go_num,by omega,HS1.out,HB.out.trans (hb'.mono HB.out.size)⟩
         case measure=>simp [intOf];omega
     · have HB:=y14h hb
       clear hb
       have l:=g.cell
       have z:=g.lt
       clear g
       have e:k=len:=by omega
       have h5:s=1 + Pr.sizes (kids.take k):=HS.out
       rw [Pr.take_all kids (by rw [HLEN.out];omega)] at h5
       have H5:=y14h h5
       clear h5 e
       go_wp2_with fail
       go_ret
       have h5:=H5.out
       exact ⟨zcq (by rw [h5];omega),zai HB.out⟩
theorem zl3 (p:Pr):∀ (v:Value) (w:World),LP w p v→p.size≤1000 →
   Calls Tryz.prog 131 #[.agg #[.int .i64 p.op,.string p.text,.int .i64 p.n,.complex .f64 p.x p.y,v]] w fun e w'=>e=.returned (.int .i64 (p.depth:Nat))∧Below w.heap.size w w':=by
 induction p using Pr.ind with
 | h op t n x y kids ih =>
   intro v w hL hsz
   obtain ⟨oa,cap,b,o,V,rfl,ht,hl,hc,hn,hcell,hrec⟩:=zba hL
   simp only [Pr.kids_node,Pr.text_node,Pr.op_node,Pr.n_node,Pr.x_node,Pr.y_node,Pr.size,Pr.depth] at *
   unfold maxLen at hc
   have h1000:=Pr.len_le_sizes kids
   have HC:=y14h hcell
   have HR:=y14h hrec
   have HN:=y14h hn
   have HI:=y14h ih
   clear hL hcell hrec hn ih
   generalize hlen:kids.length=len at *
   have HLEN:=y14h hlen
   clear hlen
   go_enter Tryz.func131,Tryz.ntmps131
   go_wp2_with fail
   go_loopw [3,4] (fun n' i wr=>zsw kids len (fun l=>1 + Pr.depths l) (w.alloc (.cells #[.int .i64 op,.string t,.int .i64 n,.complex .f64 x y,.slice oa len cap] 32)) n' i wr) (fun _ i _=>len - (intOf i).toNat)
   case atStart=>exact ⟨0,1,Nat.zero_le _,rfl,rfl,by omega,by simp [Hid,Pr.sizes,Pr.depths],Below.refl _ _⟩
   case round =>
     obtain ⟨k,s,hk,rfl,rfl,hs,HS,hb⟩:=hrel
     have g:=(Has.new w #[.int .i64 op,.string t,.int .i64 n,.complex .f64 x y,.slice oa len cap] 32).below hb (by simp)
     by_cases hlt:k < len
     · obtain ⟨q,hq⟩:∃ q,kids[k]?=some q:=⟨_,List.getElem?_eq_getElem (by rw [HLEN.out];exact hlt)⟩
       obtain ⟨rfl,hB⟩:=HN.out (by omega)
       obtain ⟨oq,cq,hV⟩:=zao (HR.out k q hq)
       have hbw:Below w.heap.size w wr:=((Below.refl _ _).alloc (Nat.le_refl _) _).trans (hb.mono (by simp))
       obtain ⟨c0,c1,c2,c3,c4⟩:=zce (w:=wr) (fun j u hu=>(hbw.cell (p:=⟨b,o + k * 5 + j,none⟩) hB).trans (HC.out k q hq j u hu))
       have L0:=(HR.out k q hq).later hbw (Nat.le_refl _)
       rw [hV] at c4 L0
       have hqs:=Pr.size_mem (List.mem_of_getElem? hq)
       have hqd:=Pr.depth_le_size q
       have CC:=fun w' h=>y14h (HI.out q (List.mem_of_getElem? hq) (.slice oq q.kids.length cq) w' h (by omega))
       have L1:=fun ob=>y14h (L0.atAlloc ob)
       have LW:=y14h L0
       have h3:=Pr.sizes_take hq
       have h4:=Pr.sizes_take_le kids (k + 1)
       have h5:=Pr.depths_take hq
       have h7:=Pr.depth_le_size (.node op t n x y kids)
       have h8:=Pr.depths_take_le kids (k + 1)
       simp only [Pr.size,Pr.depth] at h7
       have h6:s=1 + Pr.depths (kids.take k):=HS.out
       have hs1:max s (1 + q.depth)≤1000:=by rw [h5] at h8;omega
       have HS1:=y14h (show max s (1 + q.depth)=1 + Pr.depths (kids.take (k + 1)) by rw [h5];omega)
       have HB:=y14h hb
       have HQ:=y14h hq
       clear hb hbw hq L0 h3 h4 h5 h6 h7 h8 hV
       have l:=g.cell
       have z:=g.lt
       clear g
       go_wp2_with (go_at_call 131;refine (CC _ LW.out).out.mono ?_;rintro e w' ⟨rfl,hb'⟩)
       all_goals
         go_roundw
         case rel=>exact ⟨k + 1,max s (1 + q.depth),by omega,by go_num,by go_num,by omega,HS1.out,HB.out.trans (hb'.mono HB.out.size)⟩
         case measure=>simp [intOf];omega
     · have HB:=y14h hb
       clear hb
       have l:=g.cell
       have z:=g.lt
       clear g
       have e:k=len:=by omega
       have h5:s=1 + Pr.depths (kids.take k):=HS.out
       rw [Pr.take_all kids (by rw [HLEN.out];omega)] at h5
       have H5:=y14h h5
       clear h5 e
       go_wp2_with fail
       go_ret
       have h5:=H5.out
       exact ⟨zcq (by rw [h5];omega),zai HB.out⟩
def cntB (i:It) (l:List Pr):Nat:=(l.filter (Pr.hasB i)).length
theorem zzw (i:It) (l:List Pr):cntB i l≤l.length:=List.length_filter_le _ _
theorem zvn (i:It) {l:List Pr} {k:Nat} {q:Pr} (hq:l[k]?=some q):cntB i (l.take (k + 1))=cntB i (l.take k) + (if Pr.hasB i q=true then 1 else 0):=by
 rw [Pr.take_one hq];unfold cntB;rw [List.filter_append]
 by_cases h:Pr.hasB i q=true <;> simp [List.filter_cons,h]
theorem zyh (i:It) (l:List Pr):Pr.hasAll i l=decide (cntB i l=l.length):=by
 induction l with
 | nil=>simp [Pr.hasAll,cntB]
 | cons a l ih =>
   have hl:=zzw i l
   unfold cntB at *
   rw [Pr.hasAll,ih,List.filter_cons]
   cases h:Pr.hasB i a
   · simp;omega
   · simp
theorem zyi (i:It) (l:List Pr):Pr.hasAny i l=decide (0 < cntB i l):=by
 induction l with
 | nil=>simp [Pr.hasAny,cntB]
 | cons a l ih =>
   unfold cntB at *
   rw [Pr.hasAny,ih,List.filter_cons]
   cases h:Pr.hasB i a <;> simp
def zzr (i:It) (l:List Pr) (len:Nat) (w0:World) (many j:Value) (wr:World):Prop :=
 ∃ (k m:Nat),k≤len∧j=.int .i64 k∧many=.int .i64 m∧m≤k∧Hid (m=cntB i (l.take k))∧Below w0.heap.size w0 wr
theorem zo4 (i:It) (r c st:Int) (d:Bool) (hid:i.id.size≤maxLen) (p:Pr):∀ (v:Value) (w:World),LP w p v→p.size≤1000 →
   Calls Tryz.prog 38 #[.agg #[.int .i64 p.op,.string p.text,.int .i64 p.n,.complex .f64 p.x p.y,v],.agg #[.string i.id,.int .i64 r,.int .i64 c,.int .i64 st,.string i.kd,.int .i64 i.num,.complex .f64 i.ax i.ay,.bool d]] w fun e w'=>e=.returned (.bool (p.hasB i))∧Below w.heap.size w w':=by
 induction p using Pr.ind with
 | h op t n x y kids ih =>
   intro v w hL hsz
   obtain ⟨oa,cap,b,o,V,rfl,ht,hl,hc,hn,hcell,hrec⟩:=zba hL
   simp only [Pr.kids_node,Pr.text_node,Pr.op_node,Pr.n_node,Pr.x_node,Pr.y_node,Pr.size] at *
   unfold maxLen at hc
   have h1000:=Pr.len_le_sizes kids
   have HC:=y14h hcell
   have HR:=y14h hrec
   have HN:=y14h hn
   have HI:=y14h ih
   have HT:=y14h ht
   have HID:=y14h hid
   clear hL hcell hrec hn ih ht hid
   have HAll:=y14h (zyh i kids)
   have HAny:=y14h (zyi i kids)
   generalize hlen:kids.length=len at *
   have HLEN:=y14h hlen
   clear hlen
   generalize hres:Pr.hasB i (.node op t n x y kids)=res
   have HRES:=y14h hres
   clear hres
   go_enter Tryz.func38,Tryz.ntmps38
   go_wp2_with fail
   go_loopw [5,6] (fun many j wr=>zzr i kids len ((w.alloc (.cells #[.int .i64 op,.string t,.int .i64 n,.complex .f64 x y,.slice oa len cap] 32)).alloc (.cells #[.string i.id,.int .i64 r,.int .i64 c,.int .i64 st,.string i.kd,.int .i64 i.num,.complex .f64 i.ax i.ay,.bool d] 58)) many j wr) (fun _ j _=>len - (intOf j).toNat)
   case atStart=>exact ⟨0,0,Nat.zero_le _,rfl,rfl,Nat.le_refl _,by simp [Hid,cntB],Below.refl _ _⟩
   case round =>
     obtain ⟨k,m,hk,rfl,rfl,hm,HM,hb⟩:=hrel
     have G1:=y14h (((Has.new w #[.int .i64 op,.string t,.int .i64 n,.complex .f64 x y,.slice oa len cap] 32).alloc (.cells #[.string i.id,.int .i64 r,.int .i64 c,.int .i64 st,.string i.kd,.int .i64 i.num,.complex .f64 i.ax i.ay,.bool d] 58)).below hb (by simp;omega))
     have G2:=y14h ((Own.newAt (w.alloc (.cells #[.int .i64 op,.string t,.int .i64 n,.complex .f64 x y,.slice oa len cap] 32)) #[.string i.id,.int .i64 r,.int .i64 c,.int .i64 st,.string i.kd,.int .i64 i.num,.complex .f64 i.ax i.ay,.bool d] 58 (b:=w.heap.size + 1) (by simp)).has.below hb (by simp))
     by_cases hlt:k < len
     · obtain ⟨q,hq⟩:∃ q,kids[k]?=some q:=⟨_,List.getElem?_eq_getElem (by rw [HLEN.out];exact hlt)⟩
       obtain ⟨rfl,hB⟩:=HN.out (by omega)
       obtain ⟨oq,cq,hV⟩:=zao (HR.out k q hq)
       have hbw:Below w.heap.size w wr:=zai (zai hb)
       obtain ⟨c0,c1,c2,c3,c4⟩:=zce (w:=wr) (fun j u hu=>(hbw.cell (p:=⟨b,o + k * 5 + j,none⟩) hB).trans (HC.out k q hq j u hu))
       have L0:=(HR.out k q hq).later hbw (Nat.le_refl _)
       rw [hV] at c4 L0
       have hqs:=Pr.size_mem (List.mem_of_getElem? hq)
       have CC:=fun dd os=>HI.out q (List.mem_of_getElem? hq) (.slice oq q.kids.length cq) (Sort.grow (redrawn wr dd) os) (L0.later (below_regrown _ _ _) (Nat.le_refl _)) (by omega)
       have r0:=fun dd os=>cell_regrown c0 dd os
       have r1:=fun dd os=>cell_regrown c1 dd os
       have r2:=fun dd os=>cell_regrown c2 dd os
       have r3:=fun dd os=>cell_regrown c3 dd os
       have r4:=fun dd os=>cell_regrown c4 dd os
       have LA:=fun dd os o=>G1.out.regrown dd os o
       have LB:=fun dd os o=>G2.out.regrown dd os o
       have l1:=G1.out.cell
       have HB:=y14h hb
       have h9:=zvn i hq
       cases hs:Pr.hasB i q
       · rw [hs] at CC h9
         have m3:=fun dd os=>y14h (Calls.regrown_of (CC dd os))
         have HM1:=y14h (show m=cntB i (kids.take (k + 1)) by rw [h9,HM.out];rfl)
         clear hb hV L0 hs hq CC hbw h9
         go_wp2_with fail
         refine wp_region_quiet_below (by kernel_rfl) (by kernel_rfl) ?_
         repeat (first | go_big_quiet_step ((with_reducible exact (m3 _ _).out)) | quiet_step (with_reducible exact (m3 _ _).out))
         refine wpQuiet_nil ?_
         intro w7 hw'
         have hb':=y14h (zag hw')
         clear hw'
         clear m3 r0 r1 r2 r3 r4 LA LB
         go_wp2_with fail
         go_roundw
         case rel=>exact ⟨k + 1,m,by omega,by go_num,by go_num,by omega,HM1.out,HB.out.trans (hb'.out.mono HB.out.size)⟩
         case measure=>simp [intOf];omega
       · rw [hs] at CC h9
         have m3:=fun dd os=>y14h (Calls.regrown_of (CC dd os))
         have HM1:=y14h (show m + 1=cntB i (kids.take (k + 1)) by rw [h9,HM.out];rfl)
         clear hb hV L0 hs hq CC hbw h9
         go_wp2_with fail
         refine wp_region_quiet_below (by kernel_rfl) (by kernel_rfl) ?_
         repeat (first | go_big_quiet_step ((with_reducible exact (m3 _ _).out)) | quiet_step (with_reducible exact (m3 _ _).out))
         refine wpQuiet_nil ?_
         intro w7 hw'
         have hb':=y14h (zag hw')
         clear hw'
         clear m3 r0 r1 r2 r3 r4 LA LB
         go_wp2_with fail
         go_roundw
         case rel=>exact ⟨k + 1,m + 1,by omega,by go_num,by go_num,by omega,HM1.out,HB.out.trans (hb'.out.mono HB.out.size)⟩
         case measure=>simp [intOf];omega
     · have e:k=len:=by omega
       subst e
       have hm9:=HM.out
       rw [Pr.take_all kids (by rw [HLEN.out];omega)] at hm9
       have HM9:=y14h hm9
       have HB:=y14h hb
       clear hm9 HM
       have hbe:=HB.out
       have l1:=G1.out.cell
       have l2:=G2.out.cell
       have z1:=G1.out.lt
       have z2:=G2.out.lt
       have BE:=y14h (zai (zai hbe))
       clear hbe
       have hop:op=1 ∨ op=2 ∨ op=3 ∨ op=4 ∨ op=5 ∨ op=6 ∨ op=7 ∨ op=8 ∨ op=9 ∨ op=10 ∨ (op ≠ 1∧op ≠ 2∧op ≠ 3∧op ≠ 4∧op ≠ 5∧op ≠ 6∧op ≠ 7∧op ≠ 8∧op ≠ 9∧op ≠ 10):=by omega
       rcases hop with rfl | rfl | rfl | rfl | rfl | rfl | rfl | rfl | rfl | rfl | ⟨n1,n2,n3,n4,n5,n6,n7,n8,n9,n10⟩
       · have E:=y14h (show res=true by rw [← HRES.out];simp [Pr.hasB])
         clear hb
         go_wp2_with fail
         all_goals
           go_ret
           exact ⟨zac (by rw [E.out];first | done | (rw [Bool.eq_iff_iff];simp;done) | (simp_all;done)),BE.out⟩
       · have E:=y14h (show res=false by rw [← HRES.out];simp [Pr.hasB])
         clear hb
         go_wp2_with fail
         all_goals
           go_ret
           exact ⟨zac (by rw [E.out];first | done | (rw [Bool.eq_iff_iff];simp;done) | (simp_all;done)),BE.out⟩
       · have E:=y14h (show res=decide (i.kd.toList=t.toList) by rw [← HRES.out];simp [Pr.hasB])
         clear hb
         go_wp2_with fail
         all_goals
           go_ret
           exact ⟨zac (by rw [E.out];first | done | (rw [Bool.eq_iff_iff];simp;done) | (simp_all;done)),BE.out⟩
       · have E:=y14h (show res=begB i.id t by rw [← HRES.out];simp [Pr.hasB])
         have C:=fun w=>y14h (znr i.id t w HID.out HT.out)
         clear hb
         go_wp2_with (go_at_call 104;refine (C _).out.mono ?_;rintro e w' ⟨rfl,hb'⟩)
         go_ret
         exact ⟨zac E.out.symm,BE.out.trans (hb'.mono BE.out.size)⟩
       · have E:=y14h (show res=decide (i.num < n) by rw [← HRES.out];simp [Pr.hasB])
         clear hb
         go_wp2_with fail
         all_goals
           go_ret
           exact ⟨zac (by rw [E.out];first | done | (rw [Bool.eq_iff_iff];simp;done) | (simp_all;done)),BE.out⟩
       · have E:=y14h (show res=decide (n≤i.num) by rw [← HRES.out];simp [Pr.hasB])
         clear hb
         go_wp2_with fail
         all_goals
           go_ret
           exact ⟨zac (by rw [E.out];first | done | (rw [Bool.eq_iff_iff];simp;done) | (simp_all;done)),BE.out⟩
       · have E:=y14h (show res=(decide (0≤farV i.ax i.ay x y) && decide (farV i.ax i.ay x y≤n)) by rw [← HRES.out];simp [Pr.hasB,zix])
         have C:=fun w=>y14h (zo3 i.ax i.ay x y w)
         generalize farV i.ax i.ay x y=fv at *
         clear hb
         go_wp2_with (go_at_call 105;refine (C _).out.mono ?_;rintro e w' ⟨rfl,rfl⟩)
         all_goals
           go_ret
           exact ⟨zac (by rw [E.out];first | (simp_all;done) | (simp_all;omega)),BE.out⟩
       · have E:=y14h (show res=decide (m=k) by rw [← HRES.out,HM9.out,← HAll.out];simp [Pr.hasB])
         clear hb
         go_wp2_with fail
         all_goals
           go_ret
           exact ⟨zac (by rw [E.out];try (rw [Bool.eq_iff_iff];simp);try omega),BE.out⟩
       · have E:=y14h (show res=decide (0 < m) by rw [← HRES.out,HM9.out,← HAny.out];simp [Pr.hasB])
         clear hb
         go_wp2_with fail
         all_goals
           go_ret
           exact ⟨zac (by rw [E.out];try (rw [Bool.eq_iff_iff];simp);try omega),BE.out⟩
       · by_cases h0:k=0
         · subst h0
           have E:=y14h (show res=false by rw [← HRES.out,List.length_eq_zero_iff.1 HLEN.out];simp [Pr.hasB,Pr.hasNot])
           clear hb
           go_wp2_with fail
           go_ret
           exact ⟨zac E.out.symm,BE.out⟩
         · have h0':0 < k:=by omega
           clear l1
           obtain ⟨q,hq⟩:∃ q,kids[0]?=some q:=⟨_,List.getElem?_eq_getElem (by rw [HLEN.out];omega)⟩
           obtain ⟨rfl,hB⟩:=HN.out (by omega)
           obtain ⟨oq,cq,hV⟩:=zao (HR.out 0 q hq)
           have hbw:Below w.heap.size w wr:=zai (zai hb)
           obtain ⟨c0,c1,c2,c3,c4⟩:=zce (w:=wr) (fun j u hu=>(hbw.cell (p:=⟨b,o + 0 * 5 + j,none⟩) hB).trans (HC.out 0 q hq j u hu))
           have L0:=(HR.out 0 q hq).later hbw (Nat.le_refl _)
           rw [hV] at c4 L0
           have hqs:=Pr.size_mem (List.mem_of_getElem? hq)
           have CC:=fun dd os=>HI.out q (List.mem_of_getElem? hq) (.slice oq q.kids.length cq) (Sort.grow (redrawn wr dd) os) (L0.later (below_regrown _ _ _) (Nat.le_refl _)) (by omega)
           have r0:=fun dd os=>cell_regrown c0 dd os
           have r1:=fun dd os=>cell_regrown c1 dd os
           have r2:=fun dd os=>cell_regrown c2 dd os
           have r3:=fun dd os=>cell_regrown c3 dd os
           have r4:=fun dd os=>cell_regrown c4 dd os
           have LA:=fun dd os o=>G1.out.regrown dd os o
           have LB:=fun dd os o=>G2.out.regrown dd os o
           have l1:=G1.out.cell
           have E:=y14h (show res=!(Pr.hasB i q) by
             rw [← HRES.out]
             match kids,hq with
             | a :: l,hq=>simp at hq;subst hq;simp [Pr.hasB,Pr.hasNot])
           have m3:=fun dd os=>y14h (Calls.regrown_of (CC dd os))
           have hk0:((k:Int) == 0)=false:=by simp;omega
           generalize Pr.hasB i q=rq at *
           clear hb hV L0 hq CC hbw
           simp only [Nat.zero_mul,Nat.add_zero] at r0 r1 r2 r3 r4
           go_wp2_with fail
           refine wp_region_quiet_below (by kernel_rfl) (by kernel_rfl) ?_
           repeat (first | go_big_quiet_step ((with_reducible exact (m3 _ _).out)) | quiet_step (with_reducible exact (m3 _ _).out))
           refine wpQuiet_nil ?_
           intro w7 hw'
           have hb':=y14h (zag hw')
           clear hw' m3 r0 r1 r2 r3 r4 LA LB
           go_wp2_with fail
           go_ret
           exact ⟨zac E.out.symm,BE.out.trans (hb'.out.mono BE.out.size)⟩
       · have E:=y14h (show res=false by rw [← HRES.out];simp [Pr.hasB,n1,n3,n4,n5,n6,n7,n8,n9,n10])
         clear hb
         go_wp2_with fail
         go_ret
         exact ⟨zac E.out.symm,BE.out⟩
end Go.Proofs.YtodfhabkdaiopaaGreat
namespace Go.Proofs.YtodfhabkdaiopaaGreat
set_option linter.unusedVariables false
set_option linter.unusedSimpArgs false
set_option maxRecDepth 100000
set_option maxHeartbeats 8000000
open Go.ChangeShapes Go.WideShapes Go.ChangeAt Go.RowKit Go.Deep
section
variable {H:Type} {enc:TypeId × Value→H} {P:Program} {w:World} {base:Nat} {spare:Nat→Bool} {held:Bool} {fuel:Nat} {t:TypeId} {cs:List Value} {x:DataW H × List MemPlace}
theorem zdv {k:FloatKind} (ht:P.underlying t=some (.float k)) (h:DataW.trod enc P w base spare held fuel t cs=some x):∃ n,cs=[.float k n]:=by
 cases fuel with
 | zero=>simp [DataW.trod] at h
 | succ n =>
   unfold DataW.trod at h
   rw [ht] at h
   split at h <;> simp_all
theorem zju {fs:Array Field} (hone:oneCellFields P fs=true) {n:Nat} {xs:List (DataW H × List MemPlace)} (hl:cs.length=fs.size) (hxl:xs.length=fs.size)
   (hf:∀ (i:Nat) (f:Field),fs[i]?=some f→DataW.trod enc P w base spare held n f.type ((cs.drop f.offset).take (P.cellsOf f.type))=xs[i]?)
   (i:Nat) (f:Field) (hi:fs[i]?=some f):∃ c y,cs[i]?=some c∧DataW.trod enc P w base spare held n f.type [c]=some y:=by
 have hlt:i < fs.size:=(Array.getElem?_eq_some_iff.1 hi).1
 have h1:=hf i f hi
 obtain ⟨o,k⟩:=hone_of hone i f hi
 rw [o,k,List.drop_eq_getElem_cons (by omega)] at h1
 exact ⟨cs[i],xs[i]'(by omega),List.getElem?_eq_getElem (by omega),h1.trans (List.getElem?_eq_getElem (by omega))⟩
end
end Go.Proofs.YtodfhabkdaiopaaGreat
