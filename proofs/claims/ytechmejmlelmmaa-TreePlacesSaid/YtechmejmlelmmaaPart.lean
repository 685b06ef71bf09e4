/- Whether a filter's own part may be: the walks over the code's checks. -/
import Derived.Test.YtechmejmlelmmaaLies
import Derived.Test.YtechmejmlelmmaaOwn
import Derived.Test.YtechmejmlelmmaaItemB0
import Derived.Deep.RegionHeld3
import Derived.Deep.DrawnRows
namespace Go.Proofs.Ytechmejmlelmmaa
set_option linter.unusedVariables false
set_option linter.unusedSimpArgs false
set_option maxRecDepth 100000
open Go.RowKit

def inW (n a b : Int) : Bool := decide (a ≤ n) && decide (n ≤ b)

set_option maxHeartbeats 400000 in
theorem predWithin_calls (n a b : Int) (w : World) :
    Calls Try.prog 47 #[.int .i64 n, .int .i64 a, .int .i64 b] w fun e w' => e = .returned (.bool (inW n a b)) ∧ w = w' := by
  unfold inW
  by_cases h : a ≤ n <;> by_cases h' : n ≤ b <;>
  ( go_enter Try.func47, Try.ntmps47
    go_wp2
    go_ret
    exact ⟨ret_bool (by simp [h, h']), rfl⟩ )

theorem txt_empty : txtB ⟨#[]⟩ = true := by decide
set_option maxHeartbeats 400000 in
theorem predText_calls (s : ByteArray) (w : World) :
    Calls Try.prog 46 #[.string s] w fun e w' => e = .returned (.bool (txtB s)) ∧ w = w' := by
  have H := Lib.hid (name_calls s w)
  by_cases h : s.size = 0
  · have e := size_zero_lit s h
    subst e
    rw [txt_empty]
    go_enter Try.func46, Try.ntmps46
    go_wp2
    go_ret
    exact ⟨rfl, rfl⟩
  · have e : nameB s = txtB s := by simp [nameB]; omega
    rw [e] at H
    clear e
    have h1 : s.toList ≠ [] := by
      intro hz
      exact h (by have := congrArg List.length hz; rw [toList_size] at this; simpa using this)
    have h2 : s.toList.isEmpty = false := by rw [List.isEmpty_eq_false_iff]; exact h1
    generalize txtB s = r at *
    clear h
    go_enter Try.func46, Try.ntmps46
    go_wp2_with (go_at_call 52; refine (H.out).mono ?_; rintro e w' ⟨rfl, rfl⟩)
    go_ret
    exact ⟨rfl, rfl⟩

theorem len_zero (k : Nat) : ((k : Int) == 0) = decide (k = 0) := by
  rw [Bool.eq_iff_iff]; simp
theorem len_one (k : Nat) : ((k : Int) == 1) = decide (k = 1) := by
  rw [Bool.eq_iff_iff]; simp; omega

set_option maxHeartbeats 1000000 in
theorem bare_calls (op : Int) (t : ByteArray) (n : Int) (x y : Nat) (oa : Option Addr) (len cap : Nat) (w : World) :
    Calls Try.prog 49 #[.agg #[.int .i64 op, .string t, .int .i64 n, .complex .f64 x y, .slice oa len cap]] w fun e w' => e = .returned (.bool (Pr.bareB t n x y len)) ∧ Below w.heap.size w w' := by
  have f1 : ∀ x y, (FloatKind.f64.format.order x y == some .eq) = feq x y := fun _ _ => rfl
  go_enter Try.func49, Try.ntmps49
  go_wp2
  all_goals
    go_ret
    exact ⟨ret_bool (by simp_all [Pr.bareB, len_zero]), (Below.refl _ _).alloc (Nat.le_refl _) _⟩

attribute [local go_sem ↓] Go.wp_at_zero Go.wp_at_succ
set_option maxHeartbeats 4000000 in
theorem predPart_calls (op : Int) (t : ByteArray) (n : Int) (x y : Nat) (oa : Option Addr) (len cap : Nat) (w : World) :
    Calls Try.prog 38 #[.agg #[.int .i64 op, .string t, .int .i64 n, .complex .f64 x y, .slice oa len cap]] w fun e w' => e = .returned (.bool (Pr.partB op t n x y len)) ∧ Below w.heap.size w w' := by
  have HB := fun op t n x y oa len cap w => Lib.hid (bare_calls op t n x y oa len cap w)
  have HT := fun w => Lib.hid (predText_calls t w)
  have HW := fun a b w => Lib.hid (predWithin_calls n a b w)
  have HM := fun w => Lib.hid (may_calls x y w)
  have hop : op = 1 ∨ op = 2 ∨ op = 3 ∨ op = 4 ∨ op = 5 ∨ op = 6 ∨ op = 7 ∨ op = 8 ∨ op = 9 ∨ op = 10 ∨ (op ≠ 1 ∧ op ≠ 2 ∧ op ≠ 3 ∧ op ≠ 4 ∧ op ≠ 5 ∧ op ≠ 6 ∧ op ≠ 7 ∧ op ≠ 8 ∧ op ≠ 9 ∧ op ≠ 10) := by omega
  rcases hop with rfl | rfl | rfl | rfl | rfl | rfl | rfl | rfl | rfl | rfl | ⟨n1, n2, n3, n4, n5, n6, n7, n8, n9, n10⟩
  · have e : Pr.partB 1 t n x y len = Pr.bareB t n x y len := by simp [Pr.partB, inW]
    rw [e]
    clear e
    go_enter Try.func38, Try.ntmps38
    go_wp2_with fail
    go_region_held3 (fun w' => w'.cell? ⟨w.heap.size, 0, none⟩ = some (.int .i64 1) ∧ w'.cell? ⟨w.heap.size, 1, none⟩ = some (.string t) ∧ w'.cell? ⟨w.heap.size, 2, none⟩ = some (.int .i64 n) ∧ w'.cell? ⟨w.heap.size, 3, none⟩ = some (.complex .f64 x y) ∧ w'.cell? ⟨w.heap.size, 4, none⟩ = some (.slice oa len cap)) (go_keep) (fail)
    go_wp2_with (first
      | (go_at_call 46; refine (HT _).out.mono ?_; rintro e w' ⟨rfl, rfl⟩)
      | (go_at_call 47; refine (HW _ _ _).out.mono ?_; rintro e w' ⟨rfl, rfl⟩)
      | (go_at_call 48; refine (HM _).out.mono ?_; rintro e w' ⟨rfl, rfl⟩)
      | (go_at_call 49; refine (HB _ _ _ _ _ _ _ _ _).out.mono ?_; rintro e w' ⟨rfl, hb⟩))
    all_goals
      go_ret
      refine ⟨ret_bool (by simp_all), ?_⟩
      clear HB HT HW HM
      first
        | (refine below_then ?_ hb ?_
           · repeat (first | exact Below.refl _ _ | (refine Below.setCell ?_ (by simp) _) | (refine Below.alloc ?_ (by simp) _) | refine Below.drew ?_)
           · (simp; try omega))
        | (repeat (first | exact Below.refl _ _ | (refine Below.setCell ?_ (by simp) _) | (refine Below.alloc ?_ (by simp) _) | refine Below.drew ?_))
  · have e : Pr.partB 2 t n x y len = Pr.bareB t n x y len := by simp [Pr.partB, inW]
    rw [e]
    clear e
    go_enter Try.func38, Try.ntmps38
    go_wp2_with fail
    go_region_held3 (fun w' => w'.cell? ⟨w.heap.size, 0, none⟩ = some (.int .i64 2) ∧ w'.cell? ⟨w.heap.size, 1, none⟩ = some (.string t) ∧ w'.cell? ⟨w.heap.size, 2, none⟩ = some (.int .i64 n) ∧ w'.cell? ⟨w.heap.size, 3, none⟩ = some (.complex .f64 x y) ∧ w'.cell? ⟨w.heap.size, 4, none⟩ = some (.slice oa len cap)) (go_keep) (fail)
    go_wp2_with (first
      | (go_at_call 46; refine (HT _).out.mono ?_; rintro e w' ⟨rfl, rfl⟩)
      | (go_at_call 47; refine (HW _ _ _).out.mono ?_; rintro e w' ⟨rfl, rfl⟩)
      | (go_at_call 48; refine (HM _).out.mono ?_; rintro e w' ⟨rfl, rfl⟩)
      | (go_at_call 49; refine (HB _ _ _ _ _ _ _ _ _).out.mono ?_; rintro e w' ⟨rfl, hb⟩))
    all_goals
      go_ret
      refine ⟨ret_bool (by simp_all), ?_⟩
      clear HB HT HW HM
      first
        | (refine below_then ?_ hb ?_
           · repeat (first | exact Below.refl _ _ | (refine Below.setCell ?_ (by simp) _) | (refine Below.alloc ?_ (by simp) _) | refine Below.drew ?_)
           · (simp; try omega))
        | (repeat (first | exact Below.refl _ _ | (refine Below.setCell ?_ (by simp) _) | (refine Below.alloc ?_ (by simp) _) | refine Below.drew ?_))
  · have e : Pr.partB 3 t n x y len = (txtB t && Pr.bareB ⟨#[]⟩ n x y len) := by simp [Pr.partB, inW]
    rw [e]
    clear e
    generalize txtB t = r1 at *
    go_enter Try.func38, Try.ntmps38
    go_wp2_with fail
    go_region_held3 (fun w' => w'.cell? ⟨w.heap.size, 0, none⟩ = some (.int .i64 3) ∧ w'.cell? ⟨w.heap.size, 1, none⟩ = some (.string t) ∧ w'.cell? ⟨w.heap.size, 2, none⟩ = some (.int .i64 n) ∧ w'.cell? ⟨w.heap.size, 3, none⟩ = some (.complex .f64 x y) ∧ w'.cell? ⟨w.heap.size, 4, none⟩ = some (.slice oa len cap)) (go_keep) (fail)
    go_wp2_with (first
      | (go_at_call 46; refine (HT _).out.mono ?_; rintro e w' ⟨rfl, rfl⟩)
      | (go_at_call 47; refine (HW _ _ _).out.mono ?_; rintro e w' ⟨rfl, rfl⟩)
      | (go_at_call 48; refine (HM _).out.mono ?_; rintro e w' ⟨rfl, rfl⟩)
      | (go_at_call 49; refine (HB _ _ _ _ _ _ _ _ _).out.mono ?_; rintro e w' ⟨rfl, hb⟩))
    all_goals
      go_ret
      refine ⟨ret_bool (by simp_all), ?_⟩
      clear HB HT HW HM
      first
        | (refine below_then ?_ hb ?_
           · repeat (first | exact Below.refl _ _ | (refine Below.setCell ?_ (by simp) _) | (refine Below.alloc ?_ (by simp) _) | refine Below.drew ?_)
           · (simp; try omega))
        | (repeat (first | exact Below.refl _ _ | (refine Below.setCell ?_ (by simp) _) | (refine Below.alloc ?_ (by simp) _) | refine Below.drew ?_))
  · have e : Pr.partB 4 t n x y len = (txtB t && Pr.bareB ⟨#[]⟩ n x y len) := by simp [Pr.partB, inW]
    rw [e]
    clear e
    generalize txtB t = r1 at *
    go_enter Try.func38, Try.ntmps38
    go_wp2_with fail
    go_region_held3 (fun w' => w'.cell? ⟨w.heap.size, 0, none⟩ = some (.int .i64 4) ∧ w'.cell? ⟨w.heap.size, 1, none⟩ = some (.string t) ∧ w'.cell? ⟨w.heap.size, 2, none⟩ = some (.int .i64 n) ∧ w'.cell? ⟨w.heap.size, 3, none⟩ = some (.complex .f64 x y) ∧ w'.cell? ⟨w.heap.size, 4, none⟩ = some (.slice oa len cap)) (go_keep) (fail)
    go_wp2_with (first
      | (go_at_call 46; refine (HT _).out.mono ?_; rintro e w' ⟨rfl, rfl⟩)
      | (go_at_call 47; refine (HW _ _ _).out.mono ?_; rintro e w' ⟨rfl, rfl⟩)
      | (go_at_call 48; refine (HM _).out.mono ?_; rintro e w' ⟨rfl, rfl⟩)
      | (go_at_call 49; refine (HB _ _ _ _ _ _ _ _ _).out.mono ?_; rintro e w' ⟨rfl, hb⟩))
    all_goals
      go_ret
      refine ⟨ret_bool (by simp_all), ?_⟩
      clear HB HT HW HM
      first
        | (refine below_then ?_ hb ?_
           · repeat (first | exact Below.refl _ _ | (refine Below.setCell ?_ (by simp) _) | (refine Below.alloc ?_ (by simp) _) | refine Below.drew ?_)
           · (simp; try omega))
        | (repeat (first | exact Below.refl _ _ | (refine Below.setCell ?_ (by simp) _) | (refine Below.alloc ?_ (by simp) _) | refine Below.drew ?_))
  · have e : Pr.partB 5 t n x y len = (inW n (-1000000) 1000000 && Pr.bareB t 0 x y len) := by simp [Pr.partB, inW]
    rw [e]
    clear e
    have HW := fun w => Lib.hid (predWithin_calls n (-1000000) 1000000 w)
    generalize inW n (-1000000) 1000000 = r1 at *
    go_enter Try.func38, Try.ntmps38
    go_wp2_with fail
    go_region_held3 (fun w' => w'.cell? ⟨w.heap.size, 0, none⟩ = some (.int .i64 5) ∧ w'.cell? ⟨w.heap.size, 1, none⟩ = some (.string t) ∧ w'.cell? ⟨w.heap.size, 2, none⟩ = some (.int .i64 n) ∧ w'.cell? ⟨w.heap.size, 3, none⟩ = some (.complex .f64 x y) ∧ w'.cell? ⟨w.heap.size, 4, none⟩ = some (.slice oa len cap)) (go_keep) (fail)
    go_wp2_with (first
      | (go_at_call 46; refine (HT _).out.mono ?_; rintro e w' ⟨rfl, rfl⟩)
      | (go_at_call 47; refine (HW _).out.mono ?_; rintro e w' ⟨rfl, rfl⟩)
      | (go_at_call 48; refine (HM _).out.mono ?_; rintro e w' ⟨rfl, rfl⟩)
      | (go_at_call 49; refine (HB _ _ _ _ _ _ _ _ _).out.mono ?_; rintro e w' ⟨rfl, hb⟩))
    all_goals
      go_ret
      refine ⟨ret_bool (by simp_all), ?_⟩
      clear HB HT HW HM
      first
        | (refine below_then ?_ hb ?_
           · repeat (first | exact Below.refl _ _ | (refine Below.setCell ?_ (by simp) _) | (refine Below.alloc ?_ (by simp) _) | refine Below.drew ?_)
           · (simp; try omega))
        | (repeat (first | exact Below.refl _ _ | (refine Below.setCell ?_ (by simp) _) | (refine Below.alloc ?_ (by simp) _) | refine Below.drew ?_))
  · have e : Pr.partB 6 t n x y len = (inW n (-1000000) 1000000 && Pr.bareB t 0 x y len) := by simp [Pr.partB, inW]
    rw [e]
    clear e
    have HW := fun w => Lib.hid (predWithin_calls n (-1000000) 1000000 w)
    generalize inW n (-1000000) 1000000 = r1 at *
    go_enter Try.func38, Try.ntmps38
    go_wp2_with fail
    go_region_held3 (fun w' => w'.cell? ⟨w.heap.size, 0, none⟩ = some (.int .i64 6) ∧ w'.cell? ⟨w.heap.size, 1, none⟩ = some (.string t) ∧ w'.cell? ⟨w.heap.size, 2, none⟩ = some (.int .i64 n) ∧ w'.cell? ⟨w.heap.size, 3, none⟩ = some (.complex .f64 x y) ∧ w'.cell? ⟨w.heap.size, 4, none⟩ = some (.slice oa len cap)) (go_keep) (fail)
    go_wp2_with (first
      | (go_at_call 46; refine (HT _).out.mono ?_; rintro e w' ⟨rfl, rfl⟩)
      | (go_at_call 47; refine (HW _).out.mono ?_; rintro e w' ⟨rfl, rfl⟩)
      | (go_at_call 48; refine (HM _).out.mono ?_; rintro e w' ⟨rfl, rfl⟩)
      | (go_at_call 49; refine (HB _ _ _ _ _ _ _ _ _).out.mono ?_; rintro e w' ⟨rfl, hb⟩))
    all_goals
      go_ret
      refine ⟨ret_bool (by simp_all), ?_⟩
      clear HB HT HW HM
      first
        | (refine below_then ?_ hb ?_
           · repeat (first | exact Below.refl _ _ | (refine Below.setCell ?_ (by simp) _) | (refine Below.alloc ?_ (by simp) _) | refine Below.drew ?_)
           · (simp; try omega))
        | (repeat (first | exact Below.refl _ _ | (refine Below.setCell ?_ (by simp) _) | (refine Below.alloc ?_ (by simp) _) | refine Below.drew ?_))
  · have e : Pr.partB 7 t n x y len = ((mayB x y && inW n 0 8000000) && Pr.bareB t 0 0 0 len) := by simp [Pr.partB, inW]
    rw [e]
    clear e
    have HW := fun w => Lib.hid (predWithin_calls n 0 8000000 w)
    generalize inW n 0 8000000 = r1 at *
    generalize mayB x y = r2 at *
    go_enter Try.func38, Try.ntmps38
    go_wp2_with fail
    go_region_held3 (fun w' => w'.cell? ⟨w.heap.size, 0, none⟩ = some (.int .i64 7) ∧ w'.cell? ⟨w.heap.size, 1, none⟩ = some (.string t) ∧ w'.cell? ⟨w.heap.size, 2, none⟩ = some (.int .i64 n) ∧ w'.cell? ⟨w.heap.size, 3, none⟩ = some (.complex .f64 x y) ∧ w'.cell? ⟨w.heap.size, 4, none⟩ = some (.slice oa len cap)) (go_keep) (fail)
    go_wp2_with (first
      | (go_at_call 46; refine (HT _).out.mono ?_; rintro e w' ⟨rfl, rfl⟩)
      | (go_at_call 47; refine (HW _).out.mono ?_; rintro e w' ⟨rfl, rfl⟩)
      | (go_at_call 48; refine (HM _).out.mono ?_; rintro e w' ⟨rfl, rfl⟩)
      | (go_at_call 49; refine (HB _ _ _ _ _ _ _ _ _).out.mono ?_; rintro e w' ⟨rfl, hb⟩))
    all_goals
      go_ret
      refine ⟨ret_bool (by simp_all), ?_⟩
      clear HB HT HW HM
      first
        | (refine below_then ?_ hb ?_
           · repeat (first | exact Below.refl _ _ | (refine Below.setCell ?_ (by simp) _) | (refine Below.alloc ?_ (by simp) _) | refine Below.drew ?_)
           · (simp; try omega))
        | (repeat (first | exact Below.refl _ _ | (refine Below.setCell ?_ (by simp) _) | (refine Below.alloc ?_ (by simp) _) | refine Below.drew ?_))
  · have e : Pr.partB 8 t n x y len = Pr.bareB t n x y 0 := by simp [Pr.partB, inW]
    rw [e]
    clear e
    go_enter Try.func38, Try.ntmps38
    go_wp2_with fail
    go_region_held3 (fun w' => w'.cell? ⟨w.heap.size, 0, none⟩ = some (.int .i64 8) ∧ w'.cell? ⟨w.heap.size, 1, none⟩ = some (.string t) ∧ w'.cell? ⟨w.heap.size, 2, none⟩ = some (.int .i64 n) ∧ w'.cell? ⟨w.heap.size, 3, none⟩ = some (.complex .f64 x y) ∧ w'.cell? ⟨w.heap.size, 4, none⟩ = some (.slice oa len cap)) (go_keep) (fail)
    go_wp2_with (first
      | (go_at_call 46; refine (HT _).out.mono ?_; rintro e w' ⟨rfl, rfl⟩)
      | (go_at_call 47; refine (HW _ _ _).out.mono ?_; rintro e w' ⟨rfl, rfl⟩)
      | (go_at_call 48; refine (HM _).out.mono ?_; rintro e w' ⟨rfl, rfl⟩)
      | (go_at_call 49; refine (HB _ _ _ _ _ _ _ _ _).out.mono ?_; rintro e w' ⟨rfl, hb⟩))
    all_goals
      go_ret
      refine ⟨ret_bool (by simp_all), ?_⟩
      clear HB HT HW HM
      first
        | (refine below_then ?_ hb ?_
           · repeat (first | exact Below.refl _ _ | (refine Below.setCell ?_ (by simp) _) | (refine Below.alloc ?_ (by simp) _) | refine Below.drew ?_)
           · (simp; try omega))
        | (repeat (first | exact Below.refl _ _ | (refine Below.setCell ?_ (by simp) _) | (refine Below.alloc ?_ (by simp) _) | refine Below.drew ?_))
  · have e : Pr.partB 9 t n x y len = Pr.bareB t n x y 0 := by simp [Pr.partB, inW]
    rw [e]
    clear e
    go_enter Try.func38, Try.ntmps38
    go_wp2_with fail
    go_region_held3 (fun w' => w'.cell? ⟨w.heap.size, 0, none⟩ = some (.int .i64 9) ∧ w'.cell? ⟨w.heap.size, 1, none⟩ = some (.string t) ∧ w'.cell? ⟨w.heap.size, 2, none⟩ = some (.int .i64 n) ∧ w'.cell? ⟨w.heap.size, 3, none⟩ = some (.complex .f64 x y) ∧ w'.cell? ⟨w.heap.size, 4, none⟩ = some (.slice oa len cap)) (go_keep) (fail)
    go_wp2_with (first
      | (go_at_call 46; refine (HT _).out.mono ?_; rintro e w' ⟨rfl, rfl⟩)
      | (go_at_call 47; refine (HW _ _ _).out.mono ?_; rintro e w' ⟨rfl, rfl⟩)
      | (go_at_call 48; refine (HM _).out.mono ?_; rintro e w' ⟨rfl, rfl⟩)
      | (go_at_call 49; refine (HB _ _ _ _ _ _ _ _ _).out.mono ?_; rintro e w' ⟨rfl, hb⟩))
    all_goals
      go_ret
      refine ⟨ret_bool (by simp_all), ?_⟩
      clear HB HT HW HM
      first
        | (refine below_then ?_ hb ?_
           · repeat (first | exact Below.refl _ _ | (refine Below.setCell ?_ (by simp) _) | (refine Below.alloc ?_ (by simp) _) | refine Below.drew ?_)
           · (simp; try omega))
        | (repeat (first | exact Below.refl _ _ | (refine Below.setCell ?_ (by simp) _) | (refine Below.alloc ?_ (by simp) _) | refine Below.drew ?_))
  · have e : Pr.partB 10 t n x y len = (decide (len = 1) && Pr.bareB t n x y 0) := by simp [Pr.partB, inW]
    rw [e]
    clear e
    have f2 := len_one len
    generalize decide (len = 1) = r1 at *
    go_enter Try.func38, Try.ntmps38
    go_wp2_with fail
    go_region_held3 (fun w' => w'.cell? ⟨w.heap.size, 0, none⟩ = some (.int .i64 10) ∧ w'.cell? ⟨w.heap.size, 1, none⟩ = some (.string t) ∧ w'.cell? ⟨w.heap.size, 2, none⟩ = some (.int .i64 n) ∧ w'.cell? ⟨w.heap.size, 3, none⟩ = some (.complex .f64 x y) ∧ w'.cell? ⟨w.heap.size, 4, none⟩ = some (.slice oa len cap)) (go_keep) (fail)
    go_wp2_with (first
      | (go_at_call 46; refine (HT _).out.mono ?_; rintro e w' ⟨rfl, rfl⟩)
      | (go_at_call 47; refine (HW _ _ _).out.mono ?_; rintro e w' ⟨rfl, rfl⟩)
      | (go_at_call 48; refine (HM _).out.mono ?_; rintro e w' ⟨rfl, rfl⟩)
      | (go_at_call 49; refine (HB _ _ _ _ _ _ _ _ _).out.mono ?_; rintro e w' ⟨rfl, hb⟩))
    all_goals
      go_ret
      refine ⟨ret_bool (by simp_all), ?_⟩
      clear HB HT HW HM
      first
        | (refine below_then ?_ hb ?_
           · repeat (first | exact Below.refl _ _ | (refine Below.setCell ?_ (by simp) _) | (refine Below.alloc ?_ (by simp) _) | refine Below.drew ?_)
           · (simp; try omega))
        | (repeat (first | exact Below.refl _ _ | (refine Below.setCell ?_ (by simp) _) | (refine Below.alloc ?_ (by simp) _) | refine Below.drew ?_))
  · have e : Pr.partB op t n x y len = false := by simp [Pr.partB, n1, n2, n3, n4, n5, n6, n7, n8, n9, n10]
    rw [e]
    clear e
    go_enter Try.func38, Try.ntmps38
    go_wp2_with fail
    go_region_held3 (fun w' => w'.cell? ⟨w.heap.size, 0, none⟩ = some (.int .i64 op) ∧ w'.cell? ⟨w.heap.size, 1, none⟩ = some (.string t) ∧ w'.cell? ⟨w.heap.size, 2, none⟩ = some (.int .i64 n) ∧ w'.cell? ⟨w.heap.size, 3, none⟩ = some (.complex .f64 x y) ∧ w'.cell? ⟨w.heap.size, 4, none⟩ = some (.slice oa len cap)) (go_keep) (fail)
    go_wp2_with (first
      | (go_at_call 46; refine (HT _).out.mono ?_; rintro e w' ⟨rfl, rfl⟩)
      | (go_at_call 47; refine (HW _ _ _).out.mono ?_; rintro e w' ⟨rfl, rfl⟩)
      | (go_at_call 48; refine (HM _).out.mono ?_; rintro e w' ⟨rfl, rfl⟩)
      | (go_at_call 49; refine (HB _ _ _ _ _ _ _ _ _).out.mono ?_; rintro e w' ⟨rfl, hb⟩))
    all_goals
      go_ret
      refine ⟨rfl, ?_⟩
      repeat (first | exact Below.refl _ _ | (refine Below.setCell ?_ (by simp) _) | (refine Below.alloc ?_ (by simp) _) | refine Below.drew ?_)

end Go.Proofs.Ytechmejmlelmmaa
