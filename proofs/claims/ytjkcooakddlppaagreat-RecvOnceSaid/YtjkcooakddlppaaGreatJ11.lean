/- Joined: Begins, SizeB, Part, RefSize. -/
import Derived.Test.YtjkcooakddlppaaGreatJ10
import Derived.Test.YtjkcooakddlppaaGreatJ01
import Derived.Deep.CutBlock
import Derived.Deep.DeepCutAuto
import Derived.Test.YtjkcooakddlppaaGreatJ03
import Derived.Deep.RegionHeld3
import Derived.Deep.DrawnRows
/- Whether a text begins with another one: the document's answer, walked. -/
namespace Go.Proofs.YtjkcooakddlppaaGreat
set_option linter.unusedVariables false
set_option linter.unusedSimpArgs false
set_option maxRecDepth 100000
open Go.RowKit
/-! ### begins -/
theorem beg_short {s t : ByteArray} {k : Nat} (h1 : s.size ≤ k) (h2 : k < t.size) : begB s t = false := by
  unfold begB
  cases h : t.data.toList.isPrefixOf s.data.toList with
  | false => rfl
  | true =>
    have h3 := (List.isPrefixOf_iff_prefix.1 h).length_le
    have e1 : t.data.toList.length = t.size := by simp
    have e2 : s.data.toList.length = s.size := by simp
    omega
theorem beg_step {s t : ByteArray} {k : Nat} (hs : k < s.size) (ht : k < t.size) (h : s.data.toList.take k = t.data.toList.take k) (e : s[k] = t[k]) : s.data.toList.take (k + 1) = t.data.toList.take (k + 1) := by
  rw [take_snoc s k hs, take_snoc t k ht, h, e]
theorem beg_diff {s t : ByteArray} {k : Nat} (hs : k < s.size) (ht : k < t.size) (e : s[k] ≠ t[k]) : begB s t = false := by
  unfold begB
  cases h : t.data.toList.isPrefixOf s.data.toList with
  | false => rfl
  | true =>
    obtain ⟨r, hr⟩ := List.isPrefixOf_iff_prefix.1 h
    have e1 : s.data.toList[k]? = t.data.toList[k]? := by
      rw [← hr, List.getElem?_append_left (by simpa using ht)]
    have e2 : s.data.toList[k]? = some s[k] := by
      rw [List.getElem?_eq_getElem (by simpa using hs)]; rfl
    have e3 : t.data.toList[k]? = some t[k] := by
      rw [List.getElem?_eq_getElem (by simpa using ht)]; rfl
    rw [e2, e3] at e1
    exact absurd (Option.some.inj e1) e
theorem beg_all {s t : ByteArray} (h : s.data.toList.take t.size = t.data.toList.take t.size) : begB s t = true := by
  unfold begB
  rw [List.isPrefixOf_iff_prefix]
  have e : t.data.toList.take t.size = t.data.toList := List.take_of_length_le (by simp)
  rw [e] at h
  exact ⟨s.data.toList.drop t.size, by rw [← h]; exact List.take_append_drop _ _⟩
set_option maxHeartbeats 1000000 in
theorem begins_calls (s t : ByteArray) (w : World) (hs : s.size ≤ maxLen) (ht : t.size ≤ maxLen) :
    Calls Tryz.prog 102 #[.string s, .string t] w fun e w' => e = .returned (.bool (begB s t)) ∧ Below w.heap.size w w' := by
  unfold maxLen at hs ht
  go_enter Tryz.func102, Tryz.ntmps102
  go_wp2_with fail
  go_loopw [5] (fun i wr => ∃ k : Nat, k ≤ t.size ∧ i = .int .i64 k ∧ Hid (s.data.toList.take k = t.data.toList.take k) ∧ Below w.heap.size w wr) (fun i _ => t.size - (intOf i).toNat)
  case atStart => exact ⟨0, Nat.zero_le _, rfl, by simp [Hid], Below.refl _ _⟩
  case round =>
    obtain ⟨k, hk, rfl, HS, hb⟩ := hrel
    have HB := Lib.hid hb
    clear hb
    by_cases hlt : k < t.size
    · by_cases hls : k < s.size
      · have d1 : decide ((s.size : Int) ≤ (k : Int)) = false := by simp; omega
        have k0 : (0 : Int) ≤ (k : Int) := by omega
        have k1 : (k : Int) < (s.size : Int) := by omega
        have k2 : (k : Int) < (t.size : Int) := by omega
        by_cases e : s[k] = t[k]
        · have HN := Lib.hid (beg_step hls hlt HS.out e)
          have d2 : ((s[k].toNat : Int) != (t[k].toNat : Int)) = false := by rw [e]; simp
          clear e
          go_wp2_with fail
          refine wp_region_quiet_below (by kernel_rfl) (by kernel_rfl) ?_
          repeat (first | go_big_quiet_step (fail) | quiet_step (fail))
          refine wpQuiet_nil ?_
          intro w7 hw'
          have hb' := Lib.hid (regrown_below hw')
          clear hw'
          go_wp2_with fail
          go_roundw
          case rel => exact ⟨k + 1, by omega, by go_num, HN.out, HB.out.trans (hb'.out.mono HB.out.size)⟩
          case measure => simp [intOf]; omega
        · have HZ := Lib.hid (beg_diff hls hlt e)
          have d2 : ((s[k].toNat : Int) != (t[k].toNat : Int)) = true := by
            rw [bne_iff_ne]; intro h; exact e (UInt8.toNat_inj.1 (by omega))
          clear e
          go_wp2_with fail
          refine wp_region_quiet_below (by kernel_rfl) (by kernel_rfl) ?_
          repeat (first | go_big_quiet_step (fail) | quiet_step (fail))
          refine wpQuiet_nil ?_
          intro w7 hw'
          have hb' := Lib.hid (regrown_below hw')
          clear hw'
          go_wp2_with fail
          go_ret
          exact ⟨ret_bool HZ.out.symm, HB.out.trans (hb'.out.mono HB.out.size)⟩
      · have d1 : decide ((s.size : Int) ≤ (k : Int)) = true := by simp; omega
        have HZ := Lib.hid (beg_short (s := s) (t := t) (k := k) (by omega) hlt)
        go_wp2_with fail
        refine wp_region_quiet_below (by kernel_rfl) (by kernel_rfl) ?_
        repeat (first | go_big_quiet_step (fail) | quiet_step (fail))
        refine wpQuiet_nil ?_
        intro w7 hw'
        have hb' := Lib.hid (regrown_below hw')
        clear hw'
        go_wp2_with fail
        go_ret
        exact ⟨ret_bool HZ.out.symm, HB.out.trans (hb'.out.mono HB.out.size)⟩
    · have e : k = t.size := by omega
      subst e
      have HZ := Lib.hid (beg_all HS.out)
      go_wp2_with fail
      go_ret
      exact ⟨ret_bool HZ.out.symm, HB.out⟩
end Go.Proofs.YtjkcooakddlppaaGreat
/- The loops' word of sizes and depths. No walk. -/
namespace Go.Proofs.YtjkcooakddlppaaGreat
set_option linter.unusedVariables false
set_option linter.unusedSimpArgs false
set_option maxRecDepth 100000
open Go.RowKit
def SumRel (l : List Pr) (len : Nat) (f : List Pr → Nat) (w0 : World) (n i : Value) (wr : World) : Prop :=
  ∃ (k s : Nat), k ≤ len ∧ i = .int .i64 k ∧ n = .int .i64 s ∧ s ≤ 1000 ∧ Hid (s = f (l.take k)) ∧ Below w0.heap.size w0 wr
theorem lies_val {sz : Nat} {c : Pr → Value → List Value} {S : Nat → Prop} {w : World} {p : Pr} {v : Value} (h : Lies sz c S w p v) : ∃ oa cap, v = .slice oa p.kids.length cap := by
  obtain ⟨oa, cap, _, _, _, rfl, _⟩ := lies_slice h; exact ⟨oa, cap, rfl⟩
end Go.Proofs.YtjkcooakddlppaaGreat
/- Whether a filter's own part may be: the walks over the code's checks. -/
namespace Go.Proofs.YtjkcooakddlppaaGreat
set_option linter.unusedVariables false
set_option linter.unusedSimpArgs false
set_option maxRecDepth 100000
open Go.RowKit
def inW (n a b : Int) : Bool := decide (a ≤ n) && decide (n ≤ b)
set_option maxHeartbeats 400000 in
theorem predWithin_calls (n a b : Int) (w : World) :
    Calls Tryz.prog 173 #[.int .i64 n, .int .i64 a, .int .i64 b] w fun e w' => e = .returned (.bool (inW n a b)) ∧ w = w' := by
  unfold inW
  by_cases h : a ≤ n <;> by_cases h' : n ≤ b <;>
  ( go_enter Tryz.func173, Tryz.ntmps173
    go_wp2
    go_ret
    exact ⟨ret_bool (by simp [h, h']), rfl⟩ )
theorem txt_empty : txtB ⟨#[]⟩ = true := by decide
set_option maxHeartbeats 400000 in
theorem predText_calls (s : ByteArray) (w : World) :
    Calls Tryz.prog 172 #[.string s] w fun e w' => e = .returned (.bool (txtB s)) ∧ w = w' := by
  have H := Lib.hid (name_calls s w)
  by_cases h : s.size = 0
  · have e := size_zero_lit s h
    subst e
    rw [txt_empty]
    go_enter Tryz.func172, Tryz.ntmps172
    go_wp2
    go_ret
    exact ⟨rfl, rfl⟩
  · have e : nameB s = txtB s := by simp [nameB]; omega
    rw [e] at H
    clear e
    have h1 : s.toList ≠ [] := by
      intro hz
      exact h (by have := congrArg List.length hz; rw [toList_size] at this; simpa using this)
    have h2 : s.toList.isEmpty = false := by rw [List.isEmpty_eq_false_iff]; exact h1
    generalize txtB s = r at *
    clear h
    go_enter Tryz.func172, Tryz.ntmps172
    go_wp2_with (go_at_call 111; refine (H.out).mono ?_; rintro e w' ⟨rfl, rfl⟩)
    go_ret
    exact ⟨rfl, rfl⟩
theorem len_zero (k : Nat) : ((k : Int) == 0) = decide (k = 0) := by
  rw [Bool.eq_iff_iff]; simp
theorem len_one (k : Nat) : ((k : Int) == 1) = decide (k = 1) := by
  rw [Bool.eq_iff_iff]; simp; omega
set_option maxHeartbeats 1000000 in
theorem bare_calls (op : Int) (t : ByteArray) (n : Int) (x y : Nat) (oa : Option Addr) (len cap : Nat) (w : World) :
    Calls Tryz.prog 174 #[.agg #[.int .i64 op, .string t, .int .i64 n, .complex .f64 x y, .slice oa len cap]] w fun e w' => e = .returned (.bool (Pr.bareB t n x y len)) ∧ Below w.heap.size w w' := by
  have f1 : ∀ x y, (FloatKind.f64.format.order x y == some .eq) = feq x y := fun _ _ => rfl
  go_enter Tryz.func174, Tryz.ntmps174
  go_wp2
  all_goals
    go_ret
    exact ⟨ret_bool (by simp_all [Pr.bareB, len_zero]), (Below.refl _ _).alloc (Nat.le_refl _) _⟩
attribute [local go_sem ↓] Go.wp_at_zero Go.wp_at_succ
set_option maxHeartbeats 4000000 in
theorem predPart_calls (op : Int) (t : ByteArray) (n : Int) (x y : Nat) (oa : Option Addr) (len cap : Nat) (w : World) :
    Calls Tryz.prog 151 #[.agg #[.int .i64 op, .string t, .int .i64 n, .complex .f64 x y, .slice oa len cap]] w fun e w' => e = .returned (.bool (Pr.partB op t n x y len)) ∧ Below w.heap.size w w' := by
  have HB := fun op t n x y oa len cap w => Lib.hid (bare_calls op t n x y oa len cap w)
  have HT := fun w => Lib.hid (predText_calls t w)
  have HW := fun a b w => Lib.hid (predWithin_calls n a b w)
  have HM := fun w => Lib.hid (may_calls x y w)
  have hop : op = 1 ∨ op = 2 ∨ op = 3 ∨ op = 4 ∨ op = 5 ∨ op = 6 ∨ op = 7 ∨ op = 8 ∨ op = 9 ∨ op = 10 ∨ (op ≠ 1 ∧ op ≠ 2 ∧ op ≠ 3 ∧ op ≠ 4 ∧ op ≠ 5 ∧ op ≠ 6 ∧ op ≠ 7 ∧ op ≠ 8 ∧ op ≠ 9 ∧ op ≠ 10) := by omega
  rcases hop with rfl | rfl | rfl | rfl | rfl | rfl | rfl | rfl | rfl | rfl | ⟨n1, n2, n3, n4, n5, n6, n7, n8, n9, n10⟩
  · have e : Pr.partB 1 t n x y len = Pr.bareB t n x y len := by simp [Pr.partB, inW]
    rw [e]
    clear e
    go_enter Tryz.func151, Tryz.ntmps151
    go_wp2_with fail
    go_region_held3 (fun w' => w'.cell? ⟨w.heap.size, 0, none⟩ = some (.int .i64 1) ∧ w'.cell? ⟨w.heap.size, 1, none⟩ = some (.string t) ∧ w'.cell? ⟨w.heap.size, 2, none⟩ = some (.int .i64 n) ∧ w'.cell? ⟨w.heap.size, 3, none⟩ = some (.complex .f64 x y) ∧ w'.cell? ⟨w.heap.size, 4, none⟩ = some (.slice oa len cap)) (go_keep) (fail)
    go_wp2_with (first
      | (go_at_call 172; refine (HT _).out.mono ?_; rintro e w' ⟨rfl, rfl⟩)
      | (go_at_call 173; refine (HW _ _ _).out.mono ?_; rintro e w' ⟨rfl, rfl⟩)
      | (go_at_call 135; refine (HM _).out.mono ?_; rintro e w' ⟨rfl, rfl⟩)
      | (go_at_call 174; refine (HB _ _ _ _ _ _ _ _ _).out.mono ?_; rintro e w' ⟨rfl, hb⟩))
    all_goals
      go_ret
      refine ⟨ret_bool (by simp_all), ?_⟩
      clear HB HT HW HM
      first
        | (refine below_then ?_ hb ?_
           · repeat (first | exact Below.refl _ _ | (refine Below.setCell ?_ (by simp) _) | (refine Below.alloc ?_ (by simp) _) | refine Below.drew ?_)
           · (simp; try omega))
        | (repeat (first | exact Below.refl _ _ | (refine Below.setCell ?_ (by simp) _) | (refine Below.alloc ?_ (by simp) _) | refine Below.drew ?_))
  · have e : Pr.partB 2 t n x y len = Pr.bareB t n x y len := by simp [Pr.partB, inW]
    rw [e]
    clear e
    go_enter Tryz.func151, Tryz.ntmps151
    go_wp2_with fail
    go_region_held3 (fun w' => w'.cell? ⟨w.heap.size, 0, none⟩ = some (.int .i64 2) ∧ w'.cell? ⟨w.heap.size, 1, none⟩ = some (.string t) ∧ w'.cell? ⟨w.heap.size, 2, none⟩ = some (.int .i64 n) ∧ w'.cell? ⟨w.heap.size, 3, none⟩ = some (.complex .f64 x y) ∧ w'.cell? ⟨w.heap.size, 4, none⟩ = some (.slice oa len cap)) (go_keep) (fail)
    go_wp2_with (first
      | (go_at_call 172; refine (HT _).out.mono ?_; rintro e w' ⟨rfl, rfl⟩)
      | (go_at_call 173; refine (HW _ _ _).out.mono ?_; rintro e w' ⟨rfl, rfl⟩)
      | (go_at_call 135; refine (HM _).out.mono ?_; rintro e w' ⟨rfl, rfl⟩)
      | (go_at_call 174; refine (HB _ _ _ _ _ _ _ _ _).out.mono ?_; rintro e w' ⟨rfl, hb⟩))
    all_goals
      go_ret
      refine ⟨ret_bool (by simp_all), ?_⟩
      clear HB HT HW HM
      first
        | (refine below_then ?_ hb ?_
           · repeat (first | exact Below.refl _ _ | (refine Below.setCell ?_ (by simp) _) | (refine Below.alloc ?_ (by simp) _) | refine Below.drew ?_)
           · (simp; try omega))
        | (repeat (first | exact Below.refl _ _ | (refine Below.setCell ?_ (by simp) _) | (refine Below.alloc ?_ (by simp) _) | refine Below.drew ?_))
  · have e : Pr.partB 3 t n x y len = (txtB t && Pr.bareB ⟨#[]⟩ n x y len) := by simp [Pr.partB, inW]
    rw [e]
    clear e
    generalize txtB t = r1 at *
    go_enter Tryz.func151, Tryz.ntmps151
    go_wp2_with fail
    go_region_held3 (fun w' => w'.cell? ⟨w.heap.size, 0, none⟩ = some (.int .i64 3) ∧ w'.cell? ⟨w.heap.size, 1, none⟩ = some (.string t) ∧ w'.cell? ⟨w.heap.size, 2, none⟩ = some (.int .i64 n) ∧ w'.cell? ⟨w.heap.size, 3, none⟩ = some (.complex .f64 x y) ∧ w'.cell? ⟨w.heap.size, 4, none⟩ = some (.slice oa len cap)) (go_keep) (fail)
    go_wp2_with (first
      | (go_at_call 172; refine (HT _).out.mono ?_; rintro e w' ⟨rfl, rfl⟩)
      | (go_at_call 173; refine (HW _ _ _).out.mono ?_; rintro e w' ⟨rfl, rfl⟩)
      | (go_at_call 135; refine (HM _).out.mono ?_; rintro e w' ⟨rfl, rfl⟩)
      | (go_at_call 174; refine (HB _ _ _ _ _ _ _ _ _).out.mono ?_; rintro e w' ⟨rfl, hb⟩))
    all_goals
      go_ret
      refine ⟨ret_bool (by simp_all), ?_⟩
      clear HB HT HW HM
      first
        | (refine below_then ?_ hb ?_
           · repeat (first | exact Below.refl _ _ | (refine Below.setCell ?_ (by simp) _) | (refine Below.alloc ?_ (by simp) _) | refine Below.drew ?_)
           · (simp; try omega))
        | (repeat (first | exact Below.refl _ _ | (refine Below.setCell ?_ (by simp) _) | (refine Below.alloc ?_ (by simp) _) | refine Below.drew ?_))
  · have e : Pr.partB 4 t n x y len = (txtB t && Pr.bareB ⟨#[]⟩ n x y len) := by simp [Pr.partB, inW]
    rw [e]
    clear e
    generalize txtB t = r1 at *
    go_enter Tryz.func151, Tryz.ntmps151
    go_wp2_with fail
    go_region_held3 (fun w' => w'.cell? ⟨w.heap.size, 0, none⟩ = some (.int .i64 4) ∧ w'.cell? ⟨w.heap.size, 1, none⟩ = some (.string t) ∧ w'.cell? ⟨w.heap.size, 2, none⟩ = some (.int .i64 n) ∧ w'.cell? ⟨w.heap.size, 3, none⟩ = some (.complex .f64 x y) ∧ w'.cell? ⟨w.heap.size, 4, none⟩ = some (.slice oa len cap)) (go_keep) (fail)
    go_wp2_with (first
      | (go_at_call 172; refine (HT _).out.mono ?_; rintro e w' ⟨rfl, rfl⟩)
      | (go_at_call 173; refine (HW _ _ _).out.mono ?_; rintro e w' ⟨rfl, rfl⟩)
      | (go_at_call 135; refine (HM _).out.mono ?_; rintro e w' ⟨rfl, rfl⟩)
      | (go_at_call 174; refine (HB _ _ _ _ _ _ _ _ _).out.mono ?_; rintro e w' ⟨rfl, hb⟩))
    all_goals
      go_ret
      refine ⟨ret_bool (by simp_all), ?_⟩
      clear HB HT HW HM
      first
        | (refine below_then ?_ hb ?_
           · repeat (first | exact Below.refl _ _ | (refine Below.setCell ?_ (by simp) _) | (refine Below.alloc ?_ (by simp) _) | refine Below.drew ?_)
           · (simp; try omega))
        | (repeat (first | exact Below.refl _ _ | (refine Below.setCell ?_ (by simp) _) | (refine Below.alloc ?_ (by simp) _) | refine Below.drew ?_))
  · have e : Pr.partB 5 t n x y len = (inW n (-1000000) 1000000 && Pr.bareB t 0 x y len) := by simp [Pr.partB, inW]
    rw [e]
    clear e
    have HW := fun w => Lib.hid (predWithin_calls n (-1000000) 1000000 w)
    generalize inW n (-1000000) 1000000 = r1 at *
    go_enter Tryz.func151, Tryz.ntmps151
    go_wp2_with fail
    go_region_held3 (fun w' => w'.cell? ⟨w.heap.size, 0, none⟩ = some (.int .i64 5) ∧ w'.cell? ⟨w.heap.size, 1, none⟩ = some (.string t) ∧ w'.cell? ⟨w.heap.size, 2, none⟩ = some (.int .i64 n) ∧ w'.cell? ⟨w.heap.size, 3, none⟩ = some (.complex .f64 x y) ∧ w'.cell? ⟨w.heap.size, 4, none⟩ = some (.slice oa len cap)) (go_keep) (fail)
    go_wp2_with (first
      | (go_at_call 172; refine (HT _).out.mono ?_; rintro e w' ⟨rfl, rfl⟩)
      | (go_at_call 173; refine (HW _).out.mono ?_; rintro e w' ⟨rfl, rfl⟩)
      | (go_at_call 135; refine (HM _).out.mono ?_; rintro e w' ⟨rfl, rfl⟩)
      | (go_at_call 174; refine (HB _ _ _ _ _ _ _ _ _).out.mono ?_; rintro e w' ⟨rfl, hb⟩))
    all_goals
      go_ret
      refine ⟨ret_bool (by simp_all), ?_⟩
      clear HB HT HW HM
      first
        | (refine below_then ?_ hb ?_
           · repeat (first | exact Below.refl _ _ | (refine Below.setCell ?_ (by simp) _) | (refine Below.alloc ?_ (by simp) _) | refine Below.drew ?_)
           · (simp; try omega))
        | (repeat (first | exact Below.refl _ _ | (refine Below.setCell ?_ (by simp) _) | (refine Below.alloc ?_ (by simp) _) | refine Below.drew ?_))
  · have e : Pr.partB 6 t n x y len = (inW n (-1000000) 1000000 && Pr.bareB t 0 x y len) := by simp [Pr.partB, inW]
    rw [e]
    clear e
    have HW := fun w => Lib.hid (predWithin_calls n (-1000000) 1000000 w)
    generalize inW n (-1000000) 1000000 = r1 at *
    go_enter Tryz.func151, Tryz.ntmps151
    go_wp2_with fail
    go_region_held3 (fun w' => w'.cell? ⟨w.heap.size, 0, none⟩ = some (.int .i64 6) ∧ w'.cell? ⟨w.heap.size, 1, none⟩ = some (.string t) ∧ w'.cell? ⟨w.heap.size, 2, none⟩ = some (.int .i64 n) ∧ w'.cell? ⟨w.heap.size, 3, none⟩ = some (.complex .f64 x y) ∧ w'.cell? ⟨w.heap.size, 4, none⟩ = some (.slice oa len cap)) (go_keep) (fail)
    go_wp2_with (first
      | (go_at_call 172; refine (HT _).out.mono ?_; rintro e w' ⟨rfl, rfl⟩)
      | (go_at_call 173; refine (HW _).out.mono ?_; rintro e w' ⟨rfl, rfl⟩)
      | (go_at_call 135; refine (HM _).out.mono ?_; rintro e w' ⟨rfl, rfl⟩)
      | (go_at_call 174; refine (HB _ _ _ _ _ _ _ _ _).out.mono ?_; rintro e w' ⟨rfl, hb⟩))
    all_goals
      go_ret
      refine ⟨ret_bool (by simp_all), ?_⟩
      clear HB HT HW HM
      first
        | (refine below_then ?_ hb ?_
           · repeat (first | exact Below.refl _ _ | (refine Below.setCell ?_ (by simp) _) | (refine Below.alloc ?_ (by simp) _) | refine Below.drew ?_)
           · (simp; try omega))
        | (repeat (first | exact Below.refl _ _ | (refine Below.setCell ?_ (by simp) _) | (refine Below.alloc ?_ (by simp) _) | refine Below.drew ?_))
  · have e : Pr.partB 7 t n x y len = ((mayB x y && inW n 0 8000000) && Pr.bareB t 0 0 0 len) := by simp [Pr.partB, inW]
    rw [e]
    clear e
    have HW := fun w => Lib.hid (predWithin_calls n 0 8000000 w)
    generalize inW n 0 8000000 = r1 at *
    generalize mayB x y = r2 at *
    go_enter Tryz.func151, Tryz.ntmps151
    go_wp2_with fail
    go_region_held3 (fun w' => w'.cell? ⟨w.heap.size, 0, none⟩ = some (.int .i64 7) ∧ w'.cell? ⟨w.heap.size, 1, none⟩ = some (.string t) ∧ w'.cell? ⟨w.heap.size, 2, none⟩ = some (.int .i64 n) ∧ w'.cell? ⟨w.heap.size, 3, none⟩ = some (.complex .f64 x y) ∧ w'.cell? ⟨w.heap.size, 4, none⟩ = some (.slice oa len cap)) (go_keep) (fail)
    go_wp2_with (first
      | (go_at_call 172; refine (HT _).out.mono ?_; rintro e w' ⟨rfl, rfl⟩)
      | (go_at_call 173; refine (HW _).out.mono ?_; rintro e w' ⟨rfl, rfl⟩)
      | (go_at_call 135; refine (HM _).out.mono ?_; rintro e w' ⟨rfl, rfl⟩)
      | (go_at_call 174; refine (HB _ _ _ _ _ _ _ _ _).out.mono ?_; rintro e w' ⟨rfl, hb⟩))
    all_goals
      go_ret
      refine ⟨ret_bool (by simp_all), ?_⟩
      clear HB HT HW HM
      first
        | (refine below_then ?_ hb ?_
           · repeat (first | exact Below.refl _ _ | (refine Below.setCell ?_ (by simp) _) | (refine Below.alloc ?_ (by simp) _) | refine Below.drew ?_)
           · (simp; try omega))
        | (repeat (first | exact Below.refl _ _ | (refine Below.setCell ?_ (by simp) _) | (refine Below.alloc ?_ (by simp) _) | refine Below.drew ?_))
  · have e : Pr.partB 8 t n x y len = Pr.bareB t n x y 0 := by simp [Pr.partB, inW]
    rw [e]
    clear e
    go_enter Tryz.func151, Tryz.ntmps151
    go_wp2_with fail
    go_region_held3 (fun w' => w'.cell? ⟨w.heap.size, 0, none⟩ = some (.int .i64 8) ∧ w'.cell? ⟨w.heap.size, 1, none⟩ = some (.string t) ∧ w'.cell? ⟨w.heap.size, 2, none⟩ = some (.int .i64 n) ∧ w'.cell? ⟨w.heap.size, 3, none⟩ = some (.complex .f64 x y) ∧ w'.cell? ⟨w.heap.size, 4, none⟩ = some (.slice oa len cap)) (go_keep) (fail)
    go_wp2_with (first
      | (go_at_call 172; refine (HT _).out.mono ?_; rintro e w' ⟨rfl, rfl⟩)
      | (go_at_call 173; refine (HW _ _ _).out.mono ?_; rintro e w' ⟨rfl, rfl⟩)
      | (go_at_call 135; refine (HM _).out.mono ?_; rintro e w' ⟨rfl, rfl⟩)
      | (go_at_call 174; refine (HB _ _ _ _ _ _ _ _ _).out.mono ?_; rintro e w' ⟨rfl, hb⟩))
    all_goals
      go_ret
      refine ⟨ret_bool (by simp_all), ?_⟩
      clear HB HT HW HM
      first
        | (refine below_then ?_ hb ?_
           · repeat (first | exact Below.refl _ _ | (refine Below.setCell ?_ (by simp) _) | (refine Below.alloc ?_ (by simp) _) | refine Below.drew ?_)
           · (simp; try omega))
        | (repeat (first | exact Below.refl _ _ | (refine Below.setCell ?_ (by simp) _) | (refine Below.alloc ?_ (by simp) _) | refine Below.drew ?_))
  · have e : Pr.partB 9 t n x y len = Pr.bareB t n x y 0 := by simp [Pr.partB, inW]
    rw [e]
    clear e
    go_enter Tryz.func151, Tryz.ntmps151
    go_wp2_with fail
    go_region_held3 (fun w' => w'.cell? ⟨w.heap.size, 0, none⟩ = some (.int .i64 9) ∧ w'.cell? ⟨w.heap.size, 1, none⟩ = some (.string t) ∧ w'.cell? ⟨w.heap.size, 2, none⟩ = some (.int .i64 n) ∧ w'.cell? ⟨w.heap.size, 3, none⟩ = some (.complex .f64 x y) ∧ w'.cell? ⟨w.heap.size, 4, none⟩ = some (.slice oa len cap)) (go_keep) (fail)
    go_wp2_with (first
      | (go_at_call 172; refine (HT _).out.mono ?_; rintro e w' ⟨rfl, rfl⟩)
      | (go_at_call 173; refine (HW _ _ _).out.mono ?_; rintro e w' ⟨rfl, rfl⟩)
      | (go_at_call 135; refine (HM _).out.mono ?_; rintro e w' ⟨rfl, rfl⟩)
      | (go_at_call 174; refine (HB _ _ _ _ _ _ _ _ _).out.mono ?_; rintro e w' ⟨rfl, hb⟩))
    all_goals
      go_ret
      refine ⟨ret_bool (by simp_all), ?_⟩
      clear HB HT HW HM
      first
        | (refine below_then ?_ hb ?_
           · repeat (first | exact Below.refl _ _ | (refine Below.setCell ?_ (by simp) _) | (refine Below.alloc ?_ (by simp) _) | refine Below.drew ?_)
           · (simp; try omega))
        | (repeat (first | exact Below.refl _ _ | (refine Below.setCell ?_ (by simp) _) | (refine Below.alloc ?_ (by simp) _) | refine Below.drew ?_))
  · have e : Pr.partB 10 t n x y len = (decide (len = 1) && Pr.bareB t n x y 0) := by simp [Pr.partB, inW]
    rw [e]
    clear e
    have f2 := len_one len
    generalize decide (len = 1) = r1 at *
    go_enter Tryz.func151, Tryz.ntmps151
    go_wp2_with fail
    go_region_held3 (fun w' => w'.cell? ⟨w.heap.size, 0, none⟩ = some (.int .i64 10) ∧ w'.cell? ⟨w.heap.size, 1, none⟩ = some (.string t) ∧ w'.cell? ⟨w.heap.size, 2, none⟩ = some (.int .i64 n) ∧ w'.cell? ⟨w.heap.size, 3, none⟩ = some (.complex .f64 x y) ∧ w'.cell? ⟨w.heap.size, 4, none⟩ = some (.slice oa len cap)) (go_keep) (fail)
    go_wp2_with (first
      | (go_at_call 172; refine (HT _).out.mono ?_; rintro e w' ⟨rfl, rfl⟩)
      | (go_at_call 173; refine (HW _ _ _).out.mono ?_; rintro e w' ⟨rfl, rfl⟩)
      | (go_at_call 135; refine (HM _).out.mono ?_; rintro e w' ⟨rfl, rfl⟩)
      | (go_at_call 174; refine (HB _ _ _ _ _ _ _ _ _).out.mono ?_; rintro e w' ⟨rfl, hb⟩))
    all_goals
      go_ret
      refine ⟨ret_bool (by simp_all), ?_⟩
      clear HB HT HW HM
      first
        | (refine below_then ?_ hb ?_
           · repeat (first | exact Below.refl _ _ | (refine Below.setCell ?_ (by simp) _) | (refine Below.alloc ?_ (by simp) _) | refine Below.drew ?_)
           · (simp; try omega))
        | (repeat (first | exact Below.refl _ _ | (refine Below.setCell ?_ (by simp) _) | (refine Below.alloc ?_ (by simp) _) | refine Below.drew ?_))
  · have e : Pr.partB op t n x y len = false := by simp [Pr.partB, n1, n2, n3, n4, n5, n6, n7, n8, n9, n10]
    rw [e]
    clear e
    go_enter Tryz.func151, Tryz.ntmps151
    go_wp2_with fail
    go_region_held3 (fun w' => w'.cell? ⟨w.heap.size, 0, none⟩ = some (.int .i64 op) ∧ w'.cell? ⟨w.heap.size, 1, none⟩ = some (.string t) ∧ w'.cell? ⟨w.heap.size, 2, none⟩ = some (.int .i64 n) ∧ w'.cell? ⟨w.heap.size, 3, none⟩ = some (.complex .f64 x y) ∧ w'.cell? ⟨w.heap.size, 4, none⟩ = some (.slice oa len cap)) (go_keep) (fail)
    go_wp2_with (first
      | (go_at_call 172; refine (HT _).out.mono ?_; rintro e w' ⟨rfl, rfl⟩)
      | (go_at_call 173; refine (HW _ _ _).out.mono ?_; rintro e w' ⟨rfl, rfl⟩)
      | (go_at_call 135; refine (HM _).out.mono ?_; rintro e w' ⟨rfl, rfl⟩)
      | (go_at_call 174; refine (HB _ _ _ _ _ _ _ _ _).out.mono ?_; rintro e w' ⟨rfl, hb⟩))
    all_goals
      go_ret
      refine ⟨rfl, ?_⟩
      repeat (first | exact Below.refl _ _ | (refine Below.setCell ?_ (by simp) _) | (refine Below.alloc ?_ (by simp) _) | refine Below.drew ?_)
end Go.Proofs.YtjkcooakddlppaaGreat
/- How large and how deep a filter is: the document's answer, walked. -/
namespace Go.Proofs.YtjkcooakddlppaaGreat
set_option linter.unusedVariables false
set_option linter.unusedSimpArgs false
set_option maxRecDepth 100000
open Go.RowKit
set_option maxHeartbeats 1000000 in
theorem refSize_calls (p : Pr) : ∀ (v : Value) (w : World), LP w p v → p.size ≤ 1000 →
    Calls Tryz.prog 77 #[.agg #[.int .i64 p.op, .string p.text, .int .i64 p.n, .complex .f64 p.x p.y, v]] w fun e w' => e = .returned (.int .i64 (p.size : Nat)) ∧ Below w.heap.size w w' := by
  induction p using Pr.ind with
  | h op t n x y kids ih =>
    intro v w hL hsz
    obtain ⟨oa, cap, b, o, V, rfl, ht, hl, hc, hn, hcell, hrec⟩ := lies_slice hL
    simp only [Pr.kids_node, Pr.text_node, Pr.op_node, Pr.n_node, Pr.x_node, Pr.y_node, Pr.size, Pr.depth] at *
    unfold maxLen at hc
    have h1000 := Pr.len_le_sizes kids
    have HC := Lib.hid hcell
    have HR := Lib.hid hrec
    have HN := Lib.hid hn
    have HI := Lib.hid ih
    clear hL hcell hrec hn ih
    generalize hlen : kids.length = len at *
    have HLEN := Lib.hid hlen
    clear hlen
    go_enter Tryz.func77, Tryz.ntmps77
    go_wp2_with fail
    go_loopw [3, 4] (fun n' i wr => SumRel kids len (fun l => 1 + Pr.sizes l) (w.alloc (.cells #[.int .i64 op, .string t, .int .i64 n, .complex .f64 x y, .slice oa len cap] 43)) n' i wr) (fun _ i _ => len - (intOf i).toNat)
    case atStart => exact ⟨0, 1, Nat.zero_le _, rfl, rfl, by omega, by simp [Hid, Pr.sizes, Pr.depths], Below.refl _ _⟩
    case round =>
      obtain ⟨k, s, hk, rfl, rfl, hs, HS, hb⟩ := hrel
      have g := (Has.new w #[.int .i64 op, .string t, .int .i64 n, .complex .f64 x y, .slice oa len cap] 43).below hb (by simp)
      by_cases hlt : k < len
      · obtain ⟨q, hq⟩ : ∃ q, kids[k]? = some q := ⟨_, List.getElem?_eq_getElem (by rw [HLEN.out]; exact hlt)⟩
        obtain ⟨rfl, hB⟩ := HN.out (by omega)
        obtain ⟨oq, cq, hV⟩ := lies_val (HR.out k q hq)
        have hbw : Below w.heap.size w wr := ((Below.refl _ _).alloc (Nat.le_refl _) _).trans (hb.mono (by simp))
        obtain ⟨c0, c1, c2, c3, c4⟩ := pc_cells (w := wr) (fun j u hu => (hbw.cell (p := ⟨b, o + k * 5 + j, none⟩) hB).trans (HC.out k q hq j u hu))
        have L0 := (HR.out k q hq).later hbw (Nat.le_refl _)
        rw [hV] at c4 L0
        have hqs := Pr.size_mem (List.mem_of_getElem? hq)
        have hqd := Pr.depth_le_size q
        have CC := fun w' h => Lib.hid (HI.out q (List.mem_of_getElem? hq) (.slice oq q.kids.length cq) w' h (by omega))
        have L1 := fun ob => Lib.hid (L0.atAlloc ob)
        have LW := Lib.hid L0
        have h3 := Pr.sizes_take hq
        have h4 := Pr.sizes_take_le kids (k + 1)
        have h5 := Pr.depths_take hq
        have h7 := Pr.depth_le_size (.node op t n x y kids)
        have h8 := Pr.depths_take_le kids (k + 1)
        simp only [Pr.size, Pr.depth] at h7
        have h6 : s = 1 + Pr.sizes (kids.take k) := HS.out
        have hs1 : s + q.size ≤ 1000 := by rw [h3] at h4; omega
        have HS1 := Lib.hid (show s + q.size = 1 + Pr.sizes (kids.take (k + 1)) by rw [h3]; omega)
        have HB := Lib.hid hb
        have HQ := Lib.hid hq
        clear hb hbw hq L0 h3 h4 h5 h6 h7 h8 hV
        have l := g.cell
        have z := g.lt
        clear g
        go_wp2_with (go_at_call 77; refine (CC _ LW.out).out.mono ?_; rintro e w' ⟨rfl, hb'⟩)
        all_goals
          go_roundw
          case rel => exact ⟨k + 1, s + q.size, by omega, by go_num, by go_num, by omega, HS1.out, HB.out.trans (hb'.mono HB.out.size)⟩
          case measure => simp [intOf]; omega
      · have HB := Lib.hid hb
        clear hb
        have l := g.cell
        have z := g.lt
        clear g
        have e : k = len := by omega
        have h5 : s = 1 + Pr.sizes (kids.take k) := HS.out
        rw [Pr.take_all kids (by rw [HLEN.out]; omega)] at h5
        have H5 := Lib.hid h5
        clear h5 e
        go_wp2_with fail
        go_ret
        have h5 := H5.out
        exact ⟨ret_int (by rw [h5]; omega), below_new HB.out⟩
set_option maxHeartbeats 1000000 in
theorem refDepth_calls (p : Pr) : ∀ (v : Value) (w : World), LP w p v → p.size ≤ 1000 →
    Calls Tryz.prog 78 #[.agg #[.int .i64 p.op, .string p.text, .int .i64 p.n, .complex .f64 p.x p.y, v]] w fun e w' => e = .returned (.int .i64 (p.depth : Nat)) ∧ Below w.heap.size w w' := by
  induction p using Pr.ind with
  | h op t n x y kids ih =>
    intro v w hL hsz
    obtain ⟨oa, cap, b, o, V, rfl, ht, hl, hc, hn, hcell, hrec⟩ := lies_slice hL
    simp only [Pr.kids_node, Pr.text_node, Pr.op_node, Pr.n_node, Pr.x_node, Pr.y_node, Pr.size, Pr.depth] at *
    unfold maxLen at hc
    have h1000 := Pr.len_le_sizes kids
    have HC := Lib.hid hcell
    have HR := Lib.hid hrec
    have HN := Lib.hid hn
    have HI := Lib.hid ih
    clear hL hcell hrec hn ih
    generalize hlen : kids.length = len at *
    have HLEN := Lib.hid hlen
    clear hlen
    go_enter Tryz.func78, Tryz.ntmps78
    go_wp2_with fail
    go_loopw [3, 4] (fun n' i wr => SumRel kids len (fun l => 1 + Pr.depths l) (w.alloc (.cells #[.int .i64 op, .string t, .int .i64 n, .complex .f64 x y, .slice oa len cap] 43)) n' i wr) (fun _ i _ => len - (intOf i).toNat)
    case atStart => exact ⟨0, 1, Nat.zero_le _, rfl, rfl, by omega, by simp [Hid, Pr.sizes, Pr.depths], Below.refl _ _⟩
    case round =>
      obtain ⟨k, s, hk, rfl, rfl, hs, HS, hb⟩ := hrel
      have g := (Has.new w #[.int .i64 op, .string t, .int .i64 n, .complex .f64 x y, .slice oa len cap] 43).below hb (by simp)
      by_cases hlt : k < len
      · obtain ⟨q, hq⟩ : ∃ q, kids[k]? = some q := ⟨_, List.getElem?_eq_getElem (by rw [HLEN.out]; exact hlt)⟩
        obtain ⟨rfl, hB⟩ := HN.out (by omega)
        obtain ⟨oq, cq, hV⟩ := lies_val (HR.out k q hq)
        have hbw : Below w.heap.size w wr := ((Below.refl _ _).alloc (Nat.le_refl _) _).trans (hb.mono (by simp))
        obtain ⟨c0, c1, c2, c3, c4⟩ := pc_cells (w := wr) (fun j u hu => (hbw.cell (p := ⟨b, o + k * 5 + j, none⟩) hB).trans (HC.out k q hq j u hu))
        have L0 := (HR.out k q hq).later hbw (Nat.le_refl _)
        rw [hV] at c4 L0
        have hqs := Pr.size_mem (List.mem_of_getElem? hq)
        have hqd := Pr.depth_le_size q
        have CC := fun w' h => Lib.hid (HI.out q (List.mem_of_getElem? hq) (.slice oq q.kids.length cq) w' h (by omega))
        have L1 := fun ob => Lib.hid (L0.atAlloc ob)
        have LW := Lib.hid L0
        have h3 := Pr.sizes_take hq
        have h4 := Pr.sizes_take_le kids (k + 1)
        have h5 := Pr.depths_take hq
        have h7 := Pr.depth_le_size (.node op t n x y kids)
        have h8 := Pr.depths_take_le kids (k + 1)
        simp only [Pr.size, Pr.depth] at h7
        have h6 : s = 1 + Pr.depths (kids.take k) := HS.out
        have hs1 : max s (1 + q.depth) ≤ 1000 := by rw [h5] at h8; omega
        have HS1 := Lib.hid (show max s (1 + q.depth) = 1 + Pr.depths (kids.take (k + 1)) by rw [h5]; omega)
        have HB := Lib.hid hb
        have HQ := Lib.hid hq
        clear hb hbw hq L0 h3 h4 h5 h6 h7 h8 hV
        have l := g.cell
        have z := g.lt
        clear g
        go_wp2_with (go_at_call 78; refine (CC _ LW.out).out.mono ?_; rintro e w' ⟨rfl, hb'⟩)
        all_goals
          go_roundw
          case rel => exact ⟨k + 1, max s (1 + q.depth), by omega, by go_num, by go_num, by omega, HS1.out, HB.out.trans (hb'.mono HB.out.size)⟩
          case measure => simp [intOf]; omega
      · have HB := Lib.hid hb
        clear hb
        have l := g.cell
        have z := g.lt
        clear g
        have e : k = len := by omega
        have h5 : s = 1 + Pr.depths (kids.take k) := HS.out
        rw [Pr.take_all kids (by rw [HLEN.out]; omega)] at h5
        have H5 := Lib.hid h5
        clear h5 e
        go_wp2_with fail
        go_ret
        have h5 := H5.out
        exact ⟨ret_int (by rw [h5]; omega), below_new HB.out⟩
end Go.Proofs.YtjkcooakddlppaaGreat
