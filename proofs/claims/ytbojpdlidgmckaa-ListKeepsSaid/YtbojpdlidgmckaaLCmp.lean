/- The code's search for an Id: cmp.Compare of texts, span's closure, slices.BinarySearchFunc, span. Walked. -/
import Derived.Test.YtbojpdlidgmckaaLCM
namespace Go.Proofs.Ytbojpdlidgmckaa
set_option linter.unusedVariables false
set_option linter.unusedSimpArgs false
open Go.RowKit

def cmpS (a b : ByteArray) : Int := if lsB a b = true then -1 else if lsB b a = true then 1 else 0
theorem cmpS_neg (a b : ByteArray) : decide (cmpS a b < 0) = lsB a b := by
  unfold cmpS
  cases lsB a b <;> cases lsB b a <;> simp
theorem cmpS_zero (a b : ByteArray) : decide (cmpS a b = 0) = (a.toList == b.toList) := by
  unfold cmpS
  rcases ls_tri a b with h | h | h
  · rw [h, tl_ne.2 (ls_ne h)]; simp
  · rw [h, ls_irr, tl_eq.2 rfl]; simp
  · rw [ls_asym h, h, tl_ne.2 fun e => ls_ne h e.symm]; simp

set_option maxHeartbeats 400000 in
theorem isNaNS_calls (a : ByteArray) (w : World) :
    Calls Try.prog 42 #[.string a] w fun e w' => e = .returned (.bool false) ∧ w = w' := by
  go_enter Try.func42, Try.ntmps42
  go_wp2
  go_ret
  exact ⟨ret_bool (by simp), rfl⟩

set_option maxHeartbeats 400000 in
theorem cmpS_calls (a b : ByteArray) (w : World) :
    Calls Try.prog 28 #[.string a, .string b] w fun e w' => e = .returned (.int .i64 (cmpS a b)) ∧ w = w' := by
  have H := fun a w => Lib.hid (isNaNS_calls a w)
  cases h1 : Op.bytesLess a.toList b.toList
  · cases h2 : (a.toList == b.toList)
    · have e : cmpS a b = 1 := by
        unfold cmpS lsB
        have := ls_tri a b
        unfold lsB at this
        rcases this with h | h | h
        · rw [h1] at h; cases h
        · rw [tl_eq.2 h] at h2; cases h2
        · rw [h1, h]; rfl
      rw [e]
      go_enter Try.func28, Try.ntmps28
      go_wp2_with (go_at_call 42; refine ((H _ _).out).mono ?_; rintro e w' ⟨rfl, rfl⟩)
      all_goals
        go_ret
        first | exact ⟨ret_int (by simp_all), rfl⟩ | simp_all
    · have e : cmpS a b = 0 := by
        unfold cmpS
        rw [tl_eq.1 h2, ls_irr]; rfl
      rw [e]
      go_enter Try.func28, Try.ntmps28
      go_wp2_with (go_at_call 42; refine ((H _ _).out).mono ?_; rintro e w' ⟨rfl, rfl⟩)
      all_goals
        go_ret
        first | exact ⟨ret_int (by simp_all), rfl⟩ | simp_all
  · have e : cmpS a b = -1 := by
      unfold cmpS lsB
      rw [h1]; rfl
    rw [e]
    go_enter Try.func28, Try.ntmps28
    go_wp2_with (go_at_call 42; refine ((H _ _).out).mono ?_; rintro e w' ⟨rfl, rfl⟩)
    all_goals
      go_ret
      first | exact ⟨ret_int (by simp_all), rfl⟩ | simp_all

set_option maxHeartbeats 400000 in
theorem spanF_calls (x : Itm) (id : ByteArray) (w : World) :
    Calls Try.prog 40 #[iV x, .string id] w fun e w' => e = .returned (.int .i64 (cmpS x.id id)) ∧ Below w.heap.size w w' := by
  have H := fun a b w => Lib.hid (cmpS_calls a b w)
  have BEL := Lib.hid ((Below.refl w.heap.size w).alloc (Nat.le_refl _) (.cells (iA x) 34))
  go_enter Try.func40, Try.ntmps40
  go_wp2_with (go_at_call 28; refine ((H _ _ _).out).mono ?_; rintro e w' ⟨rfl, rfl⟩)
  go_ret
  exact ⟨rfl, BEL.out⟩

def BsRel (k len : Nat) (w : World) (iv jv : Value) (wr : World) : Prop :=
  ∃ i j : Nat, iv = .int .i64 i ∧ jv = .int .i64 j ∧ i ≤ k ∧ k ≤ j ∧ j ≤ len ∧ Hid (Below w.heap.size w wr)

set_option maxRecDepth 100000 in
set_option maxHeartbeats 4000000 in
theorem bsearch_calls (l : List Itm) (id : ByteArray) (v : Value) (w : World) (hR : Row 8 ic w l v) (hr : RiseI l) (hl : l.length ≤ 10000) :
    Calls Try.prog 39 #[v, .string id, .func (.func 40) #[] #[]] w fun e w' => e = .returned (.tuple #[.int .i64 (posI l id), .bool (hitI l id)]) ∧ Below w.heap.size w w' := by
  obtain ⟨oa, cap, b, o, rfl, hR⟩ := hR
  have HR := Lib.hid hR
  have HC := fun x w => Lib.hid (spanF_calls x id w)
  have hcap := hR.len
  have hmax := hR.max
  unfold maxLen at hmax
  have PI := fun (j : Nat) (i : Itm) (h : l[j]? = some i) => Lib.hid (pos_iff (id := id) hr h)
  have hk := pos_le l id
  have HH := Lib.hid (show ∀ i, l[posI l id]? = some i → hitI l id = (i.id.toList == id.toList) from fun i hi => by unfold hitI; rw [hi])
  have HN0 := Lib.hid (show l[posI l id]? = none → hitI l id = false from fun hi => by unfold hitI; rw [hi])
  clear hR hr
  generalize hn : l.length = len at *
  have HN := Lib.hid hn
  clear hn
  generalize posI l id = k at *
  generalize hitI l id = hit at *
  go_enter Try.func39, Try.ntmps39
  go_wp2_with fail
  go_loopw [9, 10] (fun iv jv wr => BsRel k len w iv jv wr) (fun iv jv _ => (intOf jv).toNat - (intOf iv).toNat)
  case atStart => exact ⟨0, len, rfl, rfl, Nat.zero_le _, hk, Nat.le_refl _, Below.refl _ _⟩
  case round =>
    obtain ⟨i, j, rfl, rfl, hi, hj, hjl, HB⟩ := hrel
    by_cases hlt : i < j
    · obtain ⟨x, hx⟩ : ∃ x, l[(i + j) / 2]? = some x := ⟨_, List.getElem?_eq_getElem (by rw [HN.out]; omega)⟩
      obtain ⟨rfl, hb0⟩ := HR.out.at0 (by rw [HN.out]; omega)
      obtain ⟨c0, c1, c2, c3, c4, c5, c6, c7⟩ := ic_cells (w := wr) (fun q u hu => (HB.out.cell (p := ⟨b, o + (i + j) / 2 * 8 + q, none⟩) hb0).trans (HR.out.cell _ x hx q u hu))
      have zb := Nat.lt_of_lt_of_le hb0 HB.out.size
      have P := PI _ _ hx
      have k1 : (i : Int) < (j : Int) := by omega
      have h1 : (i + j) / 2 < j := by omega
      have h2 : i ≤ (i + j) / 2 := by omega
      have e1 : ((i : Int) + (j : Int)) / 2 = (((i + j) / 2 : Nat) : Int) := by omega
      generalize (i + j) / 2 = h at *
      have q0 : (0 : Int) ≤ (h : Int) := by omega
      have q1 : (h : Int) < (len : Int) := by omega
      cases hs : lsB x.id id
      · have g : decide (cmpS x.id id < 0) = false := by rw [cmpS_neg]; exact hs
        have hle : k ≤ h := by have := P.out; rw [hs] at this; have := of_decide_eq_false this.symm; omega
        clear P PI HH HN0 hs
        go_wp2_with (go_at_call 40; refine (HC _ _).out.mono ?_; rintro e w' ⟨rfl, hb⟩)
        go_roundw
        case rel => exact ⟨i, h, rfl, rfl, hi, hle, by omega, Lib.hid (HB.out.trans (hb.mono HB.out.size))⟩
        case measure => simp [intOf]; omega
      · have g : decide (cmpS x.id id < 0) = true := by rw [cmpS_neg]; exact hs
        have hle : h < k := by have := P.out; rw [hs] at this; have := of_decide_eq_true this.symm; omega
        clear P PI HH HN0 hs
        go_wp2_with (go_at_call 40; refine (HC _ _).out.mono ?_; rintro e w' ⟨rfl, hb⟩)
        go_roundw
        case rel => exact ⟨h + 1, j, by go_num, rfl, hle, hj, hjl, Lib.hid (HB.out.trans (hb.mono HB.out.size))⟩
        case measure => simp [intOf]; omega
    · have e : i = k := by omega
      subst e
      have e : j = i := by omega
      subst e
      clear hi hj
      by_cases hlt2 : j < len
      · obtain ⟨x, hx⟩ : ∃ x, l[j]? = some x := ⟨_, List.getElem?_eq_getElem (by rw [HN.out]; omega)⟩
        obtain ⟨rfl, hb0⟩ := HR.out.at0 (by rw [HN.out]; omega)
        obtain ⟨c0, c1, c2, c3, c4, c5, c6, c7⟩ := ic_cells (w := wr) (fun q u hu => (HB.out.cell (p := ⟨b, o + j * 8 + q, none⟩) hb0).trans (HR.out.cell _ x hx q u hu))
        have zb := Nat.lt_of_lt_of_le hb0 HB.out.size
        have q0 : (0 : Int) ≤ (j : Int) := by omega
        have q1 : (j : Int) < (len : Int) := by omega
        have E := Lib.hid (HH.out x hx)
        clear PI HH HN0 hx
        cases hs : (x.id.toList == id.toList)
        · have g : (cmpS x.id id == 0) = false := by
            have := cmpS_zero x.id id; rw [hs] at this
            rw [beq_eq_false_iff_ne]; exact of_decide_eq_false this
          have E := Lib.hid (E.out.trans hs)
          go_wp2_with (go_at_call 40; refine (HC _ _).out.mono ?_; rintro e w' ⟨rfl, hb⟩)
          go_ret2
          exact ⟨by rw [E.out]; rfl, HB.out.trans (hb.mono HB.out.size)⟩
        · have g : (cmpS x.id id == 0) = true := by
            have := cmpS_zero x.id id; rw [hs] at this
            rw [beq_iff_eq]; exact of_decide_eq_true this
          have E := Lib.hid (E.out.trans hs)
          go_wp2_with (go_at_call 40; refine (HC _ _).out.mono ?_; rintro e w' ⟨rfl, hb⟩)
          go_ret2
          exact ⟨by rw [E.out]; rfl, HB.out.trans (hb.mono HB.out.size)⟩
      · have E := Lib.hid (HN0.out (List.getElem?_eq_none (by rw [HN.out]; omega)))
        go_wp2_with fail
        go_ret2
        exact ⟨by rw [E.out]; rfl, HB.out⟩

set_option maxHeartbeats 400000 in
theorem span_calls (l : List Itm) (id : ByteArray) (v : Value) (w : World) (hR : Row 8 ic w l v) (hr : RiseI l) (hl : l.length ≤ 10000) :
    Calls Try.prog 25 #[v, .string id] w fun e w' => e = .returned (.tuple #[.int .i64 (posI l id), .int .i64 (toI l id)]) ∧ Below w.heap.size w w' := by
  have H := Lib.hid (bsearch_calls l id v w hR hr hl)
  obtain ⟨oa, cap, rfl⟩ := hR.val
  have hk := pos_le l id
  unfold toI
  clear hR hr
  generalize hitI l id = hit at *
  generalize posI l id = k at *
  cases hit
  · go_enter Try.func25, Try.ntmps25
    go_wp2_with (go_at_call 39; refine H.out.mono ?_; rintro e w' ⟨rfl, hb⟩)
    go_ret2
    exact ⟨rfl, hb⟩
  · go_enter Try.func25, Try.ntmps25
    go_wp2_with (go_at_call 39; refine H.out.mono ?_; rintro e w' ⟨rfl, hb⟩)
    go_ret2
    exact ⟨rfl, hb⟩

end Go.Proofs.Ytbojpdlidgmckaa
