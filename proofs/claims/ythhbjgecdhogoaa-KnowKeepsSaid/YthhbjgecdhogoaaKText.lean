/- Texts in lists: slices.Index, Contains, Equal of texts; slices.ContainsFunc over odd's closure. Walked. -/
import Derived.Test.YthhbjgecdhogoaaKnowM
import Derived.Test.YthhbjgecdhogoaaKnowW
import Derived.Test.YthhbjgecdhogoaaItemB0
namespace Go.Proofs.Ythhbjgecdhogoaa
set_option linter.unusedVariables false
set_option linter.unusedSimpArgs false
open Go.RowKit

theorem among_take_step {l : List ByteArray} {k : Nat} {s x : ByteArray} (hx : l[k]? = some x) (h : amongB (l.take k) s = false) (hs : (s.toList == x.toList) = false) : amongB (l.take (k + 1)) s = false := by
  rw [takeT hx]
  unfold amongB at *
  rw [List.any_append, h]
  simp only [List.any_cons, List.any_nil, Bool.or_false, Bool.false_or]
  rw [tl_ne] at hs ⊢
  exact fun e => hs e.symm
theorem among_take_hit {l : List ByteArray} {k : Nat} {s x : ByteArray} (hx : l[k]? = some x) (hs : (s.toList == x.toList) = true) : amongB l s = true := by
  rw [tl_eq] at hs; subst hs
  exact among_iff.2 (List.mem_of_getElem? hx)
def KIdxRel (l : List ByteArray) (s : ByteArray) (n : Nat) (w0 : World) (i : Value) (wr : World) : Prop := ∃ k : Nat, k ≤ n ∧ i = .int .i64 k ∧ Hid (amongB (l.take k) s = false) ∧ Hid (w0 = wr)

set_option maxHeartbeats 2000000 in
theorem indexT_calls (l : List ByteArray) (v : Value) (s : ByteArray) (w : World) (hT : TxW w l v) :
    Calls Try.prog 52 #[v, .string s] w fun e w' => ∃ n : Int, e = .returned (.int .i64 n) ∧ decide (0 ≤ n) = amongB l s ∧ w' = w := by
  obtain ⟨oa, cap, b, o, rfl, hT⟩ := hT
  have h1 := hT.len
  have h2 := hT.max
  unfold maxLen at h2
  have HT := Lib.hid hT
  clear hT
  generalize hn : l.length = n at *
  have HN := Lib.hid hn
  clear hn
  go_enter Try.func52, Try.ntmps52
  go_wp2_with fail
  go_loopw [8] (fun i wr => KIdxRel l s n w i wr) (fun i _ => n - (intOf i).toNat)
  case atStart => exact ⟨0, Nat.zero_le _, rfl, by simp [Hid, amongB], rfl⟩
  case round =>
    obtain ⟨k, hk, rfl, HS, hw⟩ := hrel
    have ew := hw.out
    subst ew
    clear hw
    by_cases hlt : k < n
    · obtain ⟨x, hx⟩ : ∃ x, l[k]? = some x := ⟨_, List.getElem?_eq_getElem (by rw [HN.out]; exact hlt)⟩
      obtain ⟨rfl, hb⟩ := HT.out.at0 (by rw [HN.out]; omega)
      have c0 := HT.out.cell k x hx
      cases hs : (s.toList == x.toList)
      · have HF := Lib.hid (among_take_step hx HS.out hs)
        clear HS
        go_wp2_with fail
        go_roundw
        case rel => exact ⟨k + 1, by omega, by go_num, HF, rfl⟩
        case measure => simp [intOf]; omega
      · have HF := Lib.hid (among_take_hit hx hs)
        clear HS
        go_wp2_with fail
        go_ret
        exact ⟨_, rfl, by rw [HF.out]; simp, rfl⟩
    · have h := HS.out
      rw [List.take_of_length_le (by rw [HN.out]; omega)] at h
      have HF := Lib.hid h
      clear h HS
      go_wp2_with fail
      go_ret
      exact ⟨_, rfl, by rw [HF.out]; simp, rfl⟩

set_option maxHeartbeats 1000000 in
theorem containsT_calls (l : List ByteArray) (v : Value) (s : ByteArray) (w : World) (hT : TxW w l v) :
    Calls Try.prog 35 #[v, .string s] w fun e w' => e = .returned (.bool (amongB l s)) ∧ w' = w := by
  have C := Lib.hid (indexT_calls l v s w hT)
  obtain ⟨oa, cap, rfl⟩ := hT.val
  clear hT
  go_enter Try.func35, Try.ntmps35
  go_wp2_with (go_at_call 52; refine C.out.mono ?_; rintro e w' ⟨n, rfl, hn, rfl⟩)
  go_ret
  first | exact ⟨ret_bool hn, rfl⟩ | exact ⟨rfl, rfl⟩

/-! ### Two lists of texts, alike -/
def KEqRel (l m : List ByteArray) (n : Nat) (w0 : World) (i : Value) (wr : World) : Prop := ∃ k : Nat, k ≤ n ∧ i = .int .i64 k ∧ Hid (∀ j, j < k → l[j]? = m[j]?) ∧ Hid (Below w0.heap.size w0 wr)
theorem keqIds_iff : ∀ {l m : List ByteArray}, eqIds l m = true ↔ l = m
  | [], [] => by simp [eqIds]
  | [], b :: m => by simp [eqIds]
  | a :: l, [] => by simp [eqIds]
  | a :: l, b :: m => by
    have := keqIds_iff (l := l) (m := m)
    simp only [eqIds, Bool.and_eq_true, List.cons.injEq]
    rw [this]
    constructor
    · rintro ⟨h1, h2⟩; exact ⟨by first | exact tl_eq.1 h1 | simpa using h1, h2⟩
    · rintro ⟨h1, h2⟩; subst h1; exact ⟨by simp, h2⟩
theorem keqIds_no {l m : List ByteArray} (h : l ≠ m) : eqIds l m = false := by
  cases e : eqIds l m with
  | false => rfl
  | true => exact absurd (keqIds_iff.1 e) h
set_option maxHeartbeats 2000000 in
theorem equalT_calls (l m : List ByteArray) (v v' : Value) (w : World) (hT : TxW w l v) (hM : TxW w m v') :
    Calls Try.prog 59 #[v, v'] w fun e w' => e = .returned (.bool (eqIds l m)) ∧ Below w.heap.size w w' := by
  obtain ⟨oa, cap, b, o, rfl, hT⟩ := hT
  obtain ⟨oa', cap', b', o', rfl, hM⟩ := hM
  have h1 := hT.len
  have h2 := hT.max
  have h1' := hM.len
  have h2' := hM.max
  unfold maxLen at h2 h2'
  have HT := Lib.hid hT
  have HM := Lib.hid hM
  clear hT hM
  by_cases hl : l.length = m.length
  · rw [← hl] at h1' ⊢
    have HL := Lib.hid hl
    clear hl
    have hne : ((l.length : Int) == (l.length : Int)) = true := by simp
    generalize hn : l.length = n at *
    have HN := Lib.hid hn
    clear hn
    go_enter Try.func59, Try.ntmps59
    go_wp2_with fail
    go_loopw [13] (fun i wr => KEqRel l m n w i wr) (fun i _ => n - (intOf i).toNat)
    case atStart => exact ⟨0, Nat.zero_le _, rfl, Lib.hid fun j hj => absurd hj (by omega), Lib.hid (Below.refl _ _)⟩
    case round =>
      obtain ⟨k, hk, rfl, HS, HB⟩ := hrel
      by_cases hlt : k < n
      · obtain ⟨x, hx⟩ : ∃ x, l[k]? = some x := ⟨_, List.getElem?_eq_getElem (by rw [HN.out]; exact hlt)⟩
        obtain ⟨y, hy⟩ : ∃ y, m[k]? = some y := ⟨_, List.getElem?_eq_getElem (by rw [← HL.out]; exact hlt)⟩
        obtain ⟨rfl, hb⟩ := HT.out.at0 (by rw [HN.out]; omega)
        obtain ⟨rfl, hb'⟩ := HM.out.at0 (by rw [← HL.out]; omega)
        have c0 := (HT.out.later HB.out (Nat.le_refl _)).cell k x hx
        have c1 := (HM.out.later HB.out (Nat.le_refl _)).cell k y hy
        have r0 := fun dd os => cell_regrown c0 dd os
        have r1 := fun dd os => cell_regrown c1 dd os
        have z0 : b < wr.heap.size := Nat.lt_of_lt_of_le hb HB.out.size
        have z1 : b' < wr.heap.size := Nat.lt_of_lt_of_le hb' HB.out.size
        have HX := Lib.hid hx
        have HY := Lib.hid hy
        have k0 : (0 : Int) ≤ (k : Int) := by omega
        have k1 : (k : Int) < (n : Int) := by omega
        clear c0 c1 hx hy hb hb'
        cases hs : (x.toList == y.toList)
        · have HF := Lib.hid (show eqIds l m = false from keqIds_no (fun e => by
            have h1 := HX.out
            rw [e, HY.out] at h1
            cases h1; simp at hs))
          go_wp2_with fail
          refine wp_region_quiet_below (by kernel_rfl) (by kernel_rfl) ?_
          repeat (first | go_big_quiet_step (fail) | quiet_step (fail))
          refine wpQuiet_nil ?_
          intro w7 hw'
          have hb7 := Lib.hid (regrown_below hw')
          clear hw' r0 r1
          go_wp2_with fail
          go_ret
          exact ⟨ret_bool HF.out.symm, HB.out.trans (hb7.out.mono HB.out.size)⟩
        · have HF := Lib.hid (show ∀ j, j < k + 1 → l[j]? = m[j]? from fun j hj => by
            by_cases e : j = k
            · subst e; rw [HX.out, HY.out, tl_eq.1 hs]
            · exact HS.out j (by omega))
          go_wp2_with fail
          refine wp_region_quiet_below (by kernel_rfl) (by kernel_rfl) ?_
          repeat (first | go_big_quiet_step (fail) | quiet_step (fail))
          refine wpQuiet_nil ?_
          intro w7 hw'
          have hb7 := Lib.hid (regrown_below hw')
          clear hw' r0 r1
          go_wp2_with fail
          go_roundw
          case rel => exact ⟨k + 1, by omega, by go_num, HF, Lib.hid (HB.out.trans (hb7.out.mono HB.out.size))⟩
          case measure => simp [intOf]; omega
      · have HF := Lib.hid (show eqIds l m = true from keqIds_iff.2 (List.ext_getElem? fun j => by
          by_cases hj : j < k
          · exact HS.out j hj
          · rw [List.getElem?_eq_none (by rw [HN.out]; omega), List.getElem?_eq_none (by rw [← HL.out]; omega)]))
        go_wp2_with fail
        go_ret
        exact ⟨ret_bool HF.out.symm, HB.out⟩
  · have HF := Lib.hid (keqIds_no (l := l) (m := m) (fun e => hl (by rw [e])))
    have hne : ((l.length : Int) == (m.length : Int)) = false := by simp; omega
    clear hl
    go_enter Try.func59, Try.ntmps59
    go_wp2_with fail
    go_ret
    exact ⟨ret_bool HF.out.symm, Below.refl _ _⟩

/-! ### A text that may be no Id -/
def OxRel (l : List ByteArray) (n : Nat) (w0 : World) (i : Value) (wr : World) : Prop := ∃ k : Nat, k ≤ n ∧ i = .int .i64 k ∧ Hid ((l.take k).any (fun s => !nameB s) = false) ∧ Hid (w0 = wr)
set_option maxHeartbeats 1000000 in
theorem odd1_calls (s : ByteArray) (w : World) :
    Calls Try.prog 55 #[.string s] w fun e w' => e = .returned (.bool (!nameB s)) ∧ w' = w := by
  have H := Lib.hid (name_calls s w)
  generalize nameB s = r at *
  go_enter Try.func55, Try.ntmps55
  go_wp2_with (go_at_call 56; refine (H.out).mono ?_; rintro e w' ⟨rfl, rfl⟩)
  go_ret
  exact ⟨rfl, rfl⟩
set_option maxHeartbeats 2000000 in
theorem indexO_calls (l : List ByteArray) (v : Value) (w : World) (hT : TxW w l v) :
    Calls Try.prog 64 #[v, .func (Fn.func 55) #[] #[]] w fun e w' => ∃ n : Int, e = .returned (.int .i64 n) ∧ decide (0 ≤ n) = (l.any fun s => !nameB s) ∧ w' = w := by
  obtain ⟨oa, cap, b, o, rfl, hT⟩ := hT
  have h1 := hT.len
  have h2 := hT.max
  unfold maxLen at h2
  have HT := Lib.hid hT
  clear hT
  generalize hn : l.length = n at *
  have HN := Lib.hid hn
  clear hn
  go_enter Try.func64, Try.ntmps64
  go_wp2_with fail
  go_loopw [8] (fun i wr => OxRel l n w i wr) (fun i _ => n - (intOf i).toNat)
  case atStart => exact ⟨0, Nat.zero_le _, rfl, by simp [Hid], rfl⟩
  case round =>
    obtain ⟨k, hk, rfl, HS, hw⟩ := hrel
    have ew := hw.out
    subst ew
    clear hw
    by_cases hlt : k < n
    · obtain ⟨x, hx⟩ : ∃ x, l[k]? = some x := ⟨_, List.getElem?_eq_getElem (by rw [HN.out]; exact hlt)⟩
      obtain ⟨rfl, hb⟩ := HT.out.at0 (by rw [HN.out]; omega)
      have c0 := HT.out.cell k x hx
      have C := Lib.hid (odd1_calls x w)
      have HX := Lib.hid hx
      clear hx
      cases hs : nameB x
      · rw [hs] at C
        have HF := Lib.hid (show (l.any fun s => !nameB s) = true from List.any_eq_true.2 ⟨x, List.mem_of_getElem? HX.out, by rw [hs]; rfl⟩)
        clear HS
        go_wp2_with (go_at_call 55; refine C.out.mono ?_; rintro e w' ⟨rfl, rfl⟩)
        go_ret
        exact ⟨_, rfl, by rw [HF.out]; simp, rfl⟩
      · rw [hs] at C
        have HF := Lib.hid (show ((l.take (k + 1)).any fun s => !nameB s) = false by rw [takeT HX.out, List.any_append, HS.out]; simp [hs])
        clear HS
        go_wp2_with (go_at_call 55; refine C.out.mono ?_; rintro e w' ⟨rfl, rfl⟩)
        go_roundw
        case rel => exact ⟨k + 1, by omega, by go_num, HF, rfl⟩
        case measure => simp [intOf]; omega
    · have h := HS.out
      rw [List.take_of_length_le (by rw [HN.out]; omega)] at h
      have HF := Lib.hid h
      clear h HS
      go_wp2_with fail
      go_ret
      exact ⟨_, rfl, by rw [HF.out]; simp, rfl⟩
set_option maxHeartbeats 1000000 in
theorem containsO_calls (l : List ByteArray) (v : Value) (w : World) (hT : TxW w l v) :
    Calls Try.prog 54 #[v, .func (Fn.func 55) #[] #[]] w fun e w' => e = .returned (.bool (l.any fun s => !nameB s)) ∧ w' = w := by
  have C := Lib.hid (indexO_calls l v w hT)
  obtain ⟨oa, cap, rfl⟩ := hT.val
  clear hT
  go_enter Try.func54, Try.ntmps54
  go_wp2_with (go_at_call 64; refine C.out.mono ?_; rintro e w' ⟨n, rfl, hn, rfl⟩)
  go_ret
  first | exact ⟨ret_bool hn, rfl⟩ | exact ⟨rfl, rfl⟩

end Go.Proofs.Ythhbjgecdhogoaa
