/- Lists of items: the document's answers that look at all of them, walked. -/
import Derived.Test.YtbojpdlidgmckaaRefList
namespace Go.Proofs.Ytbojpdlidgmckaa
set_option linter.unusedVariables false
set_option linter.unusedSimpArgs false
open Go.RowKit

def upB (a b : Itm) : Bool := !(Op.bytesLess b.id.toList a.id.toList || b.id.toList == a.id.toList)
def risesB : List Itm → Bool
  | a :: b :: l => upB a b && risesB (b :: l)
  | _ => true
theorem rises_iff {l : List Itm} : risesB l = true ↔ ∀ j a b, l[j]? = some a → l[j + 1]? = some b → upB a b = true := by
  induction l with
  | nil => simp [risesB]
  | cons a l ih =>
    cases l with
    | nil => simp [risesB]
    | cons b l =>
      simp only [risesB, Bool.and_eq_true, ih]
      constructor
      · rintro ⟨h1, h2⟩ j x y hx hy
        cases j with
        | zero => simp at hx hy; subst hx hy; exact h1
        | succ j => exact h2 j x y (by simpa using hx) (by simpa using hy)
      · intro h
        exact ⟨h 0 a b rfl rfl, fun j x y hx hy => h (j + 1) x y (by simpa using hx) (by simpa using hy)⟩
theorem rises_false {l : List Itm} {j : Nat} {a b : Itm} (ha : l[j]? = some a) (hb : l[j + 1]? = some b) (h : upB a b = false) : risesB l = false := by
  cases e : risesB l with
  | false => rfl
  | true => rw [rises_iff.1 e j a b ha hb] at h; cases h
def UpRel (l : List Itm) (len : Nat) (w : World) (iv : Value) (wr : World) : Prop :=
  ∃ m : Nat, m ≤ len ∧ iv = .int .i64 ((m : Int) + 1) ∧ Hid (∀ j a b, j < m → l[j]? = some a → l[j + 1]? = some b → upB a b = true) ∧ Hid (Below w.heap.size w wr)

set_option maxRecDepth 100000 in
set_option maxHeartbeats 4000000 in
theorem rises_calls (l : List Itm) (v : Value) (w : World) (hR : Row 8 ic w l v) :
    Calls Try.prog 11 #[v] w fun e w' => e = .returned (.bool (risesB l)) ∧ Below w.heap.size w w' := by
  obtain ⟨oa, cap, b, o, rfl, hr⟩ := hR
  have HR := Lib.hid hr
  have hcap := hr.len
  have hmax := hr.max
  unfold maxLen at hmax
  clear hr
  generalize hn : l.length = len at *
  have HN := Lib.hid hn
  clear hn
  go_enter Try.func11, Try.ntmps11
  go_wp2_with fail
  go_loopw [3] (fun iv wr => UpRel l len w iv wr) (fun iv _ => len - (intOf iv).toNat)
  case atStart => exact ⟨0, Nat.zero_le _, rfl, fun j a b hj => absurd hj (by omega), Below.refl _ _⟩
  case round =>
    obtain ⟨m, hm, rfl, HS, HB⟩ := hrel
    by_cases hlt : m + 1 < len
    · obtain ⟨i, hi9⟩ : ∃ i, l[m]? = some i := ⟨_, List.getElem?_eq_getElem (by rw [HN.out]; omega)⟩
      obtain ⟨y, hy9⟩ : ∃ y, l[m + 1]? = some y := ⟨_, List.getElem?_eq_getElem (by rw [HN.out]; omega)⟩
      obtain ⟨rfl, hb0⟩ := HR.out.at0 (by rw [HN.out]; omega)
      have c0 := (ic_cells (w := wr) (fun j u hu => (HB.out.cell (p := ⟨b, o + m * 8 + j, none⟩) hb0).trans (HR.out.cell m i hi9 j u hu))).1
      have d0 := (ic_cells (w := wr) (fun j u hu => (HB.out.cell (p := ⟨b, o + (m + 1) * 8 + j, none⟩) hb0).trans (HR.out.cell (m + 1) y hy9 j u hu))).1
      have r0 := fun dd os => cell_regrown c0 dd os
      have r1 := fun dd os => cell_regrown d0 dd os
      have k0 : (0 : Int) ≤ (m : Int) := by omega
      have k1 : (m : Int) < (len : Int) := by omega
      have k2 : (m : Int) + 1 < (len : Int) := by omega
      have k3 : (0 : Int) ≤ (m : Int) + 1 := by omega
      have k4 : (m : Int) + 1 - 1 = (m : Int) := by omega
      have k5 : ((m : Int) + 1).toNat = m + 1 := by omega
      have HI := Lib.hid hi9
      have HY := Lib.hid hy9
      clear c0 d0 hi9 hy9
      cases ht : upB i y
      · have E := Lib.hid (rises_false HI.out HY.out ht)
        have hg : (Op.bytesLess y.id.toList i.id.toList || y.id.toList == i.id.toList) = true := by unfold upB at ht; rw [Bool.not_eq_false'] at ht; exact ht
        clear ht
        go_wp2_with fail
        refine wp_region_quiet_below (by kernel_rfl) (by kernel_rfl) ?_
        repeat (first | go_big_quiet_step (fail) | quiet_step (fail))
        refine wpQuiet_nil ?_
        intro w7 hw'
        have hb' := Lib.hid (regrown_below hw')
        clear hw'
        go_wp2_with fail
        go_ret
        exact ⟨ret_bool E.out.symm, HB.out.trans (hb'.out.mono HB.out.size)⟩
      · have HS2 := Lib.hid (show ∀ j a b, j < m + 1 → l[j]? = some a → l[j + 1]? = some b → upB a b = true from fun j a b hj ha hb => by
          by_cases e : j = m
          · subst e; rw [HI.out] at ha; rw [HY.out] at hb; cases ha; cases hb; exact ht
          · exact HS.out j a b (by omega) ha hb)
        have hg : (Op.bytesLess y.id.toList i.id.toList || y.id.toList == i.id.toList) = false := by unfold upB at ht; rw [Bool.not_eq_true'] at ht; exact ht
        clear ht
        go_wp2_with fail
        refine wp_region_quiet_below (by kernel_rfl) (by kernel_rfl) ?_
        repeat (first | go_big_quiet_step (fail) | quiet_step (fail))
        refine wpQuiet_nil ?_
        intro w7 hw'
        have hb' := Lib.hid (regrown_below hw')
        clear hw'
        clear r0 r1
        go_wp2_with fail
        go_roundw
        case rel => exact ⟨m + 1, by omega, by go_num, HS2.out, Lib.hid (HB.out.trans (hb'.out.mono HB.out.size))⟩
        case measure => simp [intOf]; omega
    · have E := Lib.hid (rises_iff.2 fun j a b ha hb => HS.out j a b (by have := some_posI hb; rw [HN.out] at this; omega) ha hb)
      go_wp2_with fail
      go_ret
      exact ⟨ret_bool E.out.symm, HB.out⟩

def AllI (P : Itm → Bool) (l : List Itm) (len : Nat) (w : World) (iv : Value) (wr : World) : Prop :=
  ∃ k : Nat, k ≤ len ∧ iv = .int .i64 k ∧ Hid (∀ j a, j < k → l[j]? = some a → P a = true) ∧ Hid (Below w.heap.size w wr)
theorem allI_step {P : Itm → Bool} {l : List Itm} {k : Nat} {i : Itm} (h : ∀ j a, j < k → l[j]? = some a → P a = true) (hi : l[k]? = some i) (hp : P i = true) : ∀ j a, j < k + 1 → l[j]? = some a → P a = true := by
  intro j a hj ha
  by_cases e : j = k
  · subst e; rw [hi] at ha; cases ha; exact hp
  · exact h j a (by omega) ha
theorem allI_true {P : Itm → Bool} {l : List Itm} (h : ∀ j a, j < l.length → l[j]? = some a → P a = true) : l.all P = true := by
  rw [List.all_eq_true]
  intro x hx
  obtain ⟨j, hj, e⟩ := List.mem_iff_getElem.1 hx
  exact h j x hj (by rw [List.getElem?_eq_getElem hj, e])
theorem allI_false {P : Itm → Bool} {l : List Itm} {k : Nat} {i : Itm} (hi : l[k]? = some i) (hp : P i = false) : l.all P = false := by
  rw [List.all_eq_false]
  exact ⟨i, List.mem_of_getElem? hi, by rw [hp]; simp⟩

set_option maxRecDepth 100000 in
set_option maxHeartbeats 4000000 in
theorem mayList_calls (mayF : Itm → Bool) (HM : ∀ (i : Itm) (w : World), i.id.size ≤ maxLen → i.kd.size ≤ maxLen → Calls Try.prog 22 #[iV i] w fun e w' => e = .returned (.bool (mayF i)) ∧ Below w.heap.size w w')
    (l : List Itm) (v : Value) (w : World) (hR : Row 8 ic w l v) :
    Calls Try.prog 10 #[v] w fun e w' => e = .returned (.bool (l.all mayF && risesB l)) ∧ Below w.heap.size w w' := by
  have RI := fun w' (hb : Below w.heap.size w w') => Lib.hid (rises_calls l v w' (hR.later hb))
  obtain ⟨oa, cap, b, o, rfl, hr⟩ := hR
  have HR := Lib.hid hr
  have hcap := hr.len
  have hmax := hr.max
  unfold maxLen at hmax
  clear hr
  generalize hn : l.length = len at *
  have HN := Lib.hid hn
  clear hn
  generalize hrs : risesB l = rs at *
  clear hrs
  go_enter Try.func10, Try.ntmps10
  go_wp2_with fail
  go_loopw [3] (fun iv wr => AllI mayF l len w iv wr) (fun iv _ => len - (intOf iv).toNat)
  case atStart => exact ⟨0, Nat.zero_le _, rfl, fun j a hj => absurd hj (by omega), Below.refl _ _⟩
  case round =>
    obtain ⟨k, hk, rfl, HS, HB⟩ := hrel
    by_cases hlt : k < len
    · obtain ⟨i, hi9⟩ : ∃ i, l[k]? = some i := ⟨_, List.getElem?_eq_getElem (by rw [HN.out]; omega)⟩
      obtain ⟨rfl, hb0⟩ := HR.out.at0 (by rw [HN.out]; omega)
      obtain ⟨c0, c1, c2, c3, c4, c5, c6, c7⟩ := ic_cells (w := wr) (fun j u hu => (HB.out.cell (p := ⟨b, o + k * 8 + j, none⟩) hb0).trans (HR.out.cell k i hi9 j u hu))
      have hok := HR.out.ok i (List.mem_of_getElem? hi9)
      have C := HM i wr hok.1 hok.2
      have HI := Lib.hid hi9
      clear hi9 hok
      cases ht : mayF i
      · have E := Lib.hid (allI_false HI.out ht)
        rw [ht] at C
        have C := Lib.hid C
        clear ht
        go_wp2_with fail
        refine C.out.mono ?_; rintro e w2 ⟨rfl, hb2⟩
        go_wp2_with fail
        go_ret
        exact ⟨ret_bool (by rw [E.out]; rfl), HB.out.trans (hb2.mono HB.out.size)⟩
      · have HS2 := Lib.hid (allI_step HS.out HI.out ht)
        rw [ht] at C
        have C := Lib.hid C
        clear ht
        go_wp2_with fail
        refine C.out.mono ?_; rintro e w2 ⟨rfl, hb2⟩
        have HB2 := Lib.hid (HB.out.trans (hb2.mono HB.out.size))
        clear hb2
        go_wp2_with fail
        go_roundw
        case rel => exact ⟨k + 1, by omega, by go_num, HS2.out, HB2⟩
        case measure => simp [intOf]; omega
    · have E := Lib.hid (allI_true (l := l) fun j a hj ha => HS.out j a (by rw [HN.out] at hj; omega) ha)
      have C := Lib.hid (RI wr HB.out)
      go_wp2_with fail
      refine C.out.out.mono ?_; rintro e w2 ⟨rfl, hb2⟩
      go_wp2_with fail
      go_ret
      exact ⟨ret_bool (by rw [E.out]; rfl), HB.out.trans (hb2.mono HB.out.size)⟩

def realB (i : Itm) : Bool := (FloatKind.f64.format.order i.x i.x == some .eq) && (FloatKind.f64.format.order i.y i.y == some .eq)
def realN (l : List Itm) : Int := if l.all realB = true then 1 else 0
theorem realN_true {l : List Itm} (h : l.all realB = true) : realN l = 1 := if_pos h
theorem realN_false {l : List Itm} (h : l.all realB = false) : realN l = 0 := if_neg (by rw [h]; simp)
set_option maxRecDepth 100000 in
set_option maxHeartbeats 4000000 in
theorem real_calls (l : List Itm) (v : Value) (w : World) (hR : Row 9 rc w l v) :
    Calls Try.prog 6 #[v] w fun e w' => e = .returned (.int .i64 (realN l)) ∧ Below w.heap.size w w' := by
  obtain ⟨oa, cap, b, o, rfl, hr⟩ := hR
  have HR := Lib.hid hr
  have hcap := hr.len
  have hmax := hr.max
  unfold maxLen at hmax
  clear hr
  generalize hn : l.length = len at *
  have HN := Lib.hid hn
  clear hn
  go_enter Try.func6, Try.ntmps6
  go_wp2_with fail
  go_loopw [3] (fun iv wr => AllI realB l len w iv wr) (fun iv _ => len - (intOf iv).toNat)
  case atStart => exact ⟨0, Nat.zero_le _, rfl, fun j a hj => absurd hj (by omega), Below.refl _ _⟩
  case round =>
    obtain ⟨k, hk, rfl, HS, HB⟩ := hrel
    by_cases hlt : k < len
    · obtain ⟨i, hi9⟩ : ∃ i, l[k]? = some i := ⟨_, List.getElem?_eq_getElem (by rw [HN.out]; omega)⟩
      obtain ⟨rfl, hb0⟩ := HR.out.at0 (by rw [HN.out]; omega)
      obtain ⟨c0, c1, c2, c3, c4, c5, c6, c7, c8⟩ := rc_cells (w := wr) (fun j u hu => (HB.out.cell (p := ⟨b, o + k * 9 + j, none⟩) hb0).trans (HR.out.cell k i hi9 j u hu))
      have r6 := fun dd os => cell_regrown c6 dd os
      have r7 := fun dd os => cell_regrown c7 dd os
      have k0 : (0 : Int) ≤ (k : Int) := by omega
      have k1 : (k : Int) < (len : Int) := by omega
      have HI := Lib.hid hi9
      clear hi9 c0 c1 c2 c3 c4 c5 c6 c7 c8
      cases hx : (FloatKind.f64.format.order i.x i.x == some .eq)
      · have E := Lib.hid (realN_false (allI_false (P := realB) HI.out (by unfold realB; rw [hx]; rfl)))
        have hx' : (FloatKind.f64.format.order i.x i.x != some .eq) = true := by unfold bne; rw [hx]; rfl
        go_wp2_with fail
        refine wp_region_quiet_below (by kernel_rfl) (by kernel_rfl) ?_
        repeat (first | go_big_quiet_step (fail) | quiet_step (fail))
        refine wpQuiet_nil ?_
        intro w7 hw'
        have hb' := Lib.hid (regrown_below hw')
        clear hw'
        go_wp2_with fail
        go_ret
        exact ⟨by rw [E.out]; rfl, HB.out.trans (hb'.out.mono HB.out.size)⟩
      have hx' : (FloatKind.f64.format.order i.x i.x != some .eq) = false := by unfold bne; rw [hx]; rfl
      cases hy : (FloatKind.f64.format.order i.y i.y == some .eq)
      · have E := Lib.hid (realN_false (allI_false (P := realB) HI.out (by unfold realB; rw [hy]; simp)))
        have hy' : (FloatKind.f64.format.order i.y i.y != some .eq) = true := by unfold bne; rw [hy]; rfl
        go_wp2_with fail
        refine wp_region_quiet_below (by kernel_rfl) (by kernel_rfl) ?_
        repeat (first | go_big_quiet_step (fail) | quiet_step (fail))
        refine wpQuiet_nil ?_
        intro w7 hw'
        have hb' := Lib.hid (regrown_below hw')
        clear hw'
        go_wp2_with fail
        go_ret
        exact ⟨by rw [E.out]; rfl, HB.out.trans (hb'.out.mono HB.out.size)⟩
      · have HS2 := Lib.hid (allI_step (P := realB) HS.out HI.out (by unfold realB; rw [hx, hy]; rfl))
        have hy' : (FloatKind.f64.format.order i.y i.y != some .eq) = false := by unfold bne; rw [hy]; rfl
        go_wp2_with fail
        refine wp_region_quiet_below (by kernel_rfl) (by kernel_rfl) ?_
        repeat (first | go_big_quiet_step (fail) | quiet_step (fail))
        refine wpQuiet_nil ?_
        intro w7 hw'
        have hb' := Lib.hid (regrown_below hw')
        clear hw'
        clear r6 r7 hx hy hx' hy'
        go_wp2_with fail
        go_roundw
        case rel => exact ⟨k + 1, by omega, by go_num, HS2.out, Lib.hid (HB.out.trans (hb'.out.mono HB.out.size))⟩
        case measure => simp [intOf]; omega
    · have E := Lib.hid (realN_true (allI_true (l := l) (P := realB) fun j a hj ha => HS.out j a (by rw [HN.out] at hj; omega) ha))
      go_wp2_with fail
      go_ret
      exact ⟨by rw [E.out]; rfl, HB.out⟩

end Go.Proofs.Ytbojpdlidgmckaa
