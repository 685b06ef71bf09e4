/- Joined: RefList2, ItemB0, RefList3, ItemB, VecM. -/
import Derived.Test.YtjepnaefkfkpcaaJ02
import Derived.Test.YtjepnaefkfkpcaaJ01
/- Lists of items: the document's answers that look at all of them, walked. -/
namespace Go.Proofs.Ytjepnaefkfkpcaa
set_option linter.unusedVariables false
set_option linter.unusedSimpArgs false
set_option maxRecDepth 100000
open Go.RowKit
def upB (a b : Itm) : Bool := !(Op.bytesLess b.id.toList a.id.toList || b.id.toList == a.id.toList)
def risesB : List Itm → Bool
  | a :: b :: l => upB a b && risesB (b :: l)
  | _ => true
theorem rises_iff {l : List Itm} : risesB l = true ↔ ∀ j a b, l[j]? = some a → l[j + 1]? = some b → upB a b = true := by
  induction l with
  | nil => simp [risesB]
  | cons a l ih =>
    cases l with
    | nil => simp [risesB]
    | cons b l =>
      simp only [risesB, Bool.and_eq_true, ih]
      constructor
      · rintro ⟨h1, h2⟩ j x y hx hy
        cases j with
        | zero => simp at hx hy; subst hx hy; exact h1
        | succ j => exact h2 j x y (by simpa using hx) (by simpa using hy)
      · intro h
        exact ⟨h 0 a b rfl rfl, fun j x y hx hy => h (j + 1) x y (by simpa using hx) (by simpa using hy)⟩
theorem rises_false {l : List Itm} {j : Nat} {a b : Itm} (ha : l[j]? = some a) (hb : l[j + 1]? = some b) (h : upB a b = false) : risesB l = false := by
  cases e : risesB l with
  | false => rfl
  | true => rw [rises_iff.1 e j a b ha hb] at h; cases h
def UpRel (l : List Itm) (len : Nat) (w : World) (iv : Value) (wr : World) : Prop :=
  ∃ m : Nat, m ≤ len ∧ iv = .int .i64 ((m : Int) + 1) ∧ Hid (∀ j a b, j < m → l[j]? = some a → l[j + 1]? = some b → upB a b = true) ∧ Hid (Below w.heap.size w wr)
set_option maxRecDepth 100000 in
set_option maxHeartbeats 4000000 in
theorem rises_calls (l : List Itm) (v : Value) (w : World) (hR : Row 8 ic w l v) :
    Calls Try.prog 36 #[v] w fun e w' => e = .returned (.bool (risesB l)) ∧ Below w.heap.size w w' := by
  obtain ⟨oa, cap, b, o, rfl, hr⟩ := hR
  have HR := Lib.hid hr
  have hcap := hr.len
  have hmax := hr.max
  unfold maxLen at hmax
  clear hr
  generalize hn : l.length = len at *
  have HN := Lib.hid hn
  clear hn
  go_enter Try.func36, Try.ntmps36
  go_wp2_with fail
  go_loopw [3] (fun iv wr => UpRel l len w iv wr) (fun iv _ => len - (intOf iv).toNat)
  case atStart => exact ⟨0, Nat.zero_le _, rfl, fun j a b hj => absurd hj (by omega), Below.refl _ _⟩
  case round =>
    obtain ⟨m, hm, rfl, HS, HB⟩ := hrel
    by_cases hlt : m + 1 < len
    · obtain ⟨i, hi9⟩ : ∃ i, l[m]? = some i := ⟨_, List.getElem?_eq_getElem (by rw [HN.out]; omega)⟩
      obtain ⟨y, hy9⟩ : ∃ y, l[m + 1]? = some y := ⟨_, List.getElem?_eq_getElem (by rw [HN.out]; omega)⟩
      obtain ⟨rfl, hb0⟩ := HR.out.at0 (by rw [HN.out]; omega)
      have c0 := (ic_cells (w := wr) (fun j u hu => (HB.out.cell (p := ⟨b, o + m * 8 + j, none⟩) hb0).trans (HR.out.cell m i hi9 j u hu))).1
      have d0 := (ic_cells (w := wr) (fun j u hu => (HB.out.cell (p := ⟨b, o + (m + 1) * 8 + j, none⟩) hb0).trans (HR.out.cell (m + 1) y hy9 j u hu))).1
      have r0 := fun dd os => cell_regrown c0 dd os
      have r1 := fun dd os => cell_regrown d0 dd os
      have k0 : (0 : Int) ≤ (m : Int) := by omega
      have k1 : (m : Int) < (len : Int) := by omega
      have k2 : (m : Int) + 1 < (len : Int) := by omega
      have k3 : (0 : Int) ≤ (m : Int) + 1 := by omega
      have k4 : (m : Int) + 1 - 1 = (m : Int) := by omega
      have k5 : ((m : Int) + 1).toNat = m + 1 := by omega
      have HI := Lib.hid hi9
      have HY := Lib.hid hy9
      clear c0 d0 hi9 hy9
      cases ht : upB i y
      · have E := Lib.hid (rises_false HI.out HY.out ht)
        have hg : (Op.bytesLess y.id.toList i.id.toList || y.id.toList == i.id.toList) = true := by unfold upB at ht; rw [Bool.not_eq_false'] at ht; exact ht
        clear ht
        go_wp2_with fail
        refine wp_region_quiet_below (by kernel_rfl) (by kernel_rfl) ?_
        repeat (first | go_big_quiet_step (fail) | quiet_step (fail))
        refine wpQuiet_nil ?_
        intro w7 hw'
        have hb' := Lib.hid (regrown_below hw')
        clear hw'
        go_wp2_with fail
        go_ret
        exact ⟨ret_bool E.out.symm, HB.out.trans (hb'.out.mono HB.out.size)⟩
      · have HS2 := Lib.hid (show ∀ j a b, j < m + 1 → l[j]? = some a → l[j + 1]? = some b → upB a b = true from fun j a b hj ha hb => by
          by_cases e : j = m
          · subst e; rw [HI.out] at ha; rw [HY.out] at hb; cases ha; cases hb; exact ht
          · exact HS.out j a b (by omega) ha hb)
        have hg : (Op.bytesLess y.id.toList i.id.toList || y.id.toList == i.id.toList) = false := by unfold upB at ht; rw [Bool.not_eq_true'] at ht; exact ht
        clear ht
        go_wp2_with fail
        refine wp_region_quiet_below (by kernel_rfl) (by kernel_rfl) ?_
        repeat (first | go_big_quiet_step (fail) | quiet_step (fail))
        refine wpQuiet_nil ?_
        intro w7 hw'
        have hb' := Lib.hid (regrown_below hw')
        clear hw'
        clear r0 r1
        go_wp2_with fail
        go_roundw
        case rel => exact ⟨m + 1, by omega, by go_num, HS2.out, Lib.hid (HB.out.trans (hb'.out.mono HB.out.size))⟩
        case measure => simp [intOf]; omega
    · have E := Lib.hid (rises_iff.2 fun j a b ha hb => HS.out j a b (by have := some_posI hb; rw [HN.out] at this; omega) ha hb)
      go_wp2_with fail
      go_ret
      exact ⟨ret_bool E.out.symm, HB.out⟩
def AllI (P : Itm → Bool) (l : List Itm) (len : Nat) (w : World) (iv : Value) (wr : World) : Prop :=
  ∃ k : Nat, k ≤ len ∧ iv = .int .i64 k ∧ Hid (∀ j a, j < k → l[j]? = some a → P a = true) ∧ Hid (Below w.heap.size w wr)
theorem allI_step {P : Itm → Bool} {l : List Itm} {k : Nat} {i : Itm} (h : ∀ j a, j < k → l[j]? = some a → P a = true) (hi : l[k]? = some i) (hp : P i = true) : ∀ j a, j < k + 1 → l[j]? = some a → P a = true := by
  intro j a hj ha
  by_cases e : j = k
  · subst e; rw [hi] at ha; cases ha; exact hp
  · exact h j a (by omega) ha
theorem allI_true {P : Itm → Bool} {l : List Itm} (h : ∀ j a, j < l.length → l[j]? = some a → P a = true) : l.all P = true := by
  rw [List.all_eq_true]
  intro x hx
  obtain ⟨j, hj, e⟩ := List.mem_iff_getElem.1 hx
  exact h j x hj (by rw [List.getElem?_eq_getElem hj, e])
theorem allI_false {P : Itm → Bool} {l : List Itm} {k : Nat} {i : Itm} (hi : l[k]? = some i) (hp : P i = false) : l.all P = false := by
  rw [List.all_eq_false]
  exact ⟨i, List.mem_of_getElem? hi, by rw [hp]; simp⟩
set_option maxRecDepth 100000 in
set_option maxHeartbeats 4000000 in
theorem mayList_calls (mayF : Itm → Bool) (HM : ∀ (i : Itm) (w : World), i.id.size ≤ maxLen → i.kd.size ≤ maxLen → Calls Try.prog 35 #[iV i] w fun e w' => e = .returned (.bool (mayF i)) ∧ Below w.heap.size w w')
    (l : List Itm) (v : Value) (w : World) (hR : Row 8 ic w l v) :
    Calls Try.prog 19 #[v] w fun e w' => e = .returned (.bool (l.all mayF && risesB l)) ∧ Below w.heap.size w w' := by
  have RI := fun w' (hb : Below w.heap.size w w') => Lib.hid (rises_calls l v w' (hR.later hb))
  obtain ⟨oa, cap, b, o, rfl, hr⟩ := hR
  have HR := Lib.hid hr
  have hcap := hr.len
  have hmax := hr.max
  unfold maxLen at hmax
  clear hr
  generalize hn : l.length = len at *
  have HN := Lib.hid hn
  clear hn
  generalize hrs : risesB l = rs at *
  clear hrs
  go_enter Try.func19, Try.ntmps19
  go_wp2_with fail
  go_loopw [3] (fun iv wr => AllI mayF l len w iv wr) (fun iv _ => len - (intOf iv).toNat)
  case atStart => exact ⟨0, Nat.zero_le _, rfl, fun j a hj => absurd hj (by omega), Below.refl _ _⟩
  case round =>
    obtain ⟨k, hk, rfl, HS, HB⟩ := hrel
    by_cases hlt : k < len
    · obtain ⟨i, hi9⟩ : ∃ i, l[k]? = some i := ⟨_, List.getElem?_eq_getElem (by rw [HN.out]; omega)⟩
      obtain ⟨rfl, hb0⟩ := HR.out.at0 (by rw [HN.out]; omega)
      obtain ⟨c0, c1, c2, c3, c4, c5, c6, c7⟩ := ic_cells (w := wr) (fun j u hu => (HB.out.cell (p := ⟨b, o + k * 8 + j, none⟩) hb0).trans (HR.out.cell k i hi9 j u hu))
      have hok := HR.out.ok i (List.mem_of_getElem? hi9)
      have C := HM i wr hok.1 hok.2
      have HI := Lib.hid hi9
      clear hi9 hok
      cases ht : mayF i
      · have E := Lib.hid (allI_false HI.out ht)
        rw [ht] at C
        have C := Lib.hid C
        clear ht
        go_wp2_with fail
        refine C.out.mono ?_; rintro e w2 ⟨rfl, hb2⟩
        go_wp2_with fail
        go_ret
        exact ⟨ret_bool (by rw [E.out]; rfl), HB.out.trans (hb2.mono HB.out.size)⟩
      · have HS2 := Lib.hid (allI_step HS.out HI.out ht)
        rw [ht] at C
        have C := Lib.hid C
        clear ht
        go_wp2_with fail
        refine C.out.mono ?_; rintro e w2 ⟨rfl, hb2⟩
        have HB2 := Lib.hid (HB.out.trans (hb2.mono HB.out.size))
        clear hb2
        go_wp2_with fail
        go_roundw
        case rel => exact ⟨k + 1, by omega, by go_num, HS2.out, HB2⟩
        case measure => simp [intOf]; omega
    · have E := Lib.hid (allI_true (l := l) fun j a hj ha => HS.out j a (by rw [HN.out] at hj; omega) ha)
      have C := Lib.hid (RI wr HB.out)
      go_wp2_with fail
      refine C.out.out.mono ?_; rintro e w2 ⟨rfl, hb2⟩
      go_wp2_with fail
      go_ret
      exact ⟨ret_bool (by rw [E.out]; rfl), HB.out.trans (hb2.mono HB.out.size)⟩
end Go.Proofs.Ytjepnaefkfkpcaa
/- Walks of the document's answer for texts, and of names. -/
namespace Go.Proofs.Ytjepnaefkfkpcaa
set_option linter.unusedVariables false
set_option linter.unusedSimpArgs false
set_option maxRecDepth 100000
open Go.RowKit
theorem txt_of {s : ByteArray} (h8 : s.size ≤ 8) : txtB s = lows s.data.toList := by simp [txtB, h8]
theorem txt_far {s : ByteArray} (h8 : 8 < s.size) : txtB s = false := by simp [txtB]; omega
theorem txt_no {s : ByteArray} (h : lows s.data.toList = false) : txtB s = false := by simp [txtB, h]
set_option maxHeartbeats 400000 in
theorem letters_calls (s : ByteArray) (n : Int) (w : World) (hs : s.size ≤ maxLen) :
    Calls Try.prog 54 #[.string s, .int .i64 n] w fun e w' => e = .returned (.bool (txtB s && decide (n ≤ s.size))) ∧ w = w' := by
  unfold maxLen at hs
  go_enter Try.func54, Try.ntmps54
  go_wp2
  go_loop [5] (fun i => ∃ k : Nat, k ≤ s.size ∧ k ≤ 8 ∧ i = .int .i64 k ∧ lows (s.data.toList.take k) = true) (fun i => s.size - (intOf i).toNat)
  case atStart => exact ⟨0, Nat.zero_le _, by omega, rfl, by simp [lows]⟩
  case round =>
    obtain ⟨k, hk, hk8, rfl, hl⟩ := hrel
    by_cases hlt : k < s.size
    · by_cases h8 : k = 8
      · subst h8
        have HZ := Lib.hid (txt_far hlt)
        have HL := Lib.hid hl
        clear hl
        go_wp2
        go_ret
        exact ⟨ret_bool (by rw [HZ.out]; rfl), rfl⟩
      · have hn := lows_snoc s k hlt hl
        have HN := Lib.hid hn
        have HF := Lib.hid (lows_false s k hlt)
        clear hn
        have HL := Lib.hid hl
        clear hl
        have g8 : ((k : Int) == 8) = false := by rw [beq_eq_false_iff_ne]; omega
        by_cases a1 : s[k].toNat < 97
        · have HZ := Lib.hid (txt_no (HF.out (not_low_lt a1)))
          clear HF HN
          go_wp2
          go_ret
          exact ⟨ret_bool (by rw [HZ.out]; rfl), rfl⟩
        · by_cases a2 : 122 < s[k].toNat
          · have HZ := Lib.hid (txt_no (HF.out (not_low_gt a2)))
            clear HF HN
            go_wp2
            go_ret
            exact ⟨ret_bool (by rw [HZ.out]; rfl), rfl⟩
          · have hz := HN.out
            rw [low_of (by omega) (by omega)] at hz
            have HZ := Lib.hid hz
            clear hz HF HN
            have hk9 : k + 1 ≤ 8 := by omega
            clear h8 g8
            have g8 : ((k : Int) == 8) = false := by rw [beq_eq_false_iff_ne]; omega
            go_wp2
            go_round
            case rel => exact ⟨k + 1, by omega, hk9, by go_num, HZ.out⟩
            case measure => simp [intOf]; omega
    · have e : k = s.size := by omega
      subst e
      have HL := Lib.hid (lows_all s hl)
      have HT := Lib.hid (txt_of hk8)
      clear hl
      go_wp2
      go_ret
      exact ⟨ret_bool (by rw [HT.out, HL.out]; simp), rfl⟩
set_option maxHeartbeats 400000 in
theorem refText_calls (s : ByteArray) (w : World) (hs : s.size ≤ maxLen) :
    Calls Try.prog 48 #[.string s] w fun e w' => e = .returned (.bool (txtB s)) ∧ w = w' := by
  have H := Lib.hid (letters_calls s 0 w hs)
  have e : txtB s = (txtB s && decide ((0 : Int) ≤ s.size)) := by
    have : (0 : Int) ≤ s.size := by omega
    simp
  rw [e]
  clear e
  generalize (txtB s && decide ((0 : Int) ≤ s.size)) = r at *
  go_enter Try.func48, Try.ntmps48
  go_wp2_with (go_at_call 54; refine (H.out).mono ?_; rintro e w' ⟨rfl, rfl⟩)
  go_ret
  exact ⟨rfl, rfl⟩
end Go.Proofs.Ytjepnaefkfkpcaa
/- Lists of items: whether two are the same, all of both: the document's answers, walked. -/
namespace Go.Proofs.Ytjepnaefkfkpcaa
set_option linter.unusedVariables false
set_option linter.unusedSimpArgs false
set_option maxRecDepth 100000
open Go.RowKit
/-! ### All of both -/
theorem run_storeCells_nil {P : Program} (w : World) (a : Addr) : (storeCells a ([] : List Value)).run P w = .ok () w := by simp [storeCells]
attribute [local go_sem] run_storeCells_nil
end Go.Proofs.Ytjepnaefkfkpcaa
/- Walks of the document's answer for names and versions, and of the code's checks of numbers. -/
namespace Go.Proofs.Ytjepnaefkfkpcaa
set_option linter.unusedVariables false
set_option linter.unusedSimpArgs false
set_option maxRecDepth 100000
open Go.RowKit
set_option maxHeartbeats 400000 in
theorem refName_calls (s : ByteArray) (w : World) (hs : s.size ≤ maxLen) :
    Calls Try.prog 39 #[.string s] w fun e w' => e = .returned (.bool (nameB s)) ∧ w = w' := by
  have H := Lib.hid (letters_calls s 1 w hs)
  have e : nameB s = (txtB s && decide ((1 : Int) ≤ s.size)) := by
    unfold nameB; rw [Bool.and_comm]; congr 1; rw [decide_eq_decide]; omega
  rw [e]
  clear e
  generalize (txtB s && decide ((1 : Int) ≤ s.size)) = r at *
  go_enter Try.func39, Try.ntmps39
  go_wp2_with (go_at_call 54; refine (H.out).mono ?_; rintro e w' ⟨rfl, rfl⟩)
  go_ret
  exact ⟨rfl, rfl⟩
def inB (n a b : Int) : Bool := decide (a ≤ n) && decide (n ≤ b)
def verB (r c : Int) : Bool := inB r 1 8 && inB c 1 1000
set_option maxHeartbeats 400000 in
theorem refVer_calls (r c : Int) (w : World) :
    Calls Try.prog 51 #[.agg #[.int .i64 r, .int .i64 c]] w fun e w' => e = .returned (.bool (verB r c)) ∧ Below w.heap.size w w' := by
  unfold verB inB
  by_cases h1 : 1 ≤ r
  · by_cases h2 : r ≤ 8
    · by_cases h3 : 1 ≤ c
      · by_cases h4 : c ≤ 1000
        all_goals
          go_enter Try.func51, Try.ntmps51
          go_wp2
          go_ret
          exact ⟨ret_bool (by simp [h1, h2, h3, h4]), (Below.refl _ _).alloc (Nat.le_refl _) _⟩
      · go_enter Try.func51, Try.ntmps51
        go_wp2
        go_ret
        exact ⟨ret_bool (by simp [h1, h2, h3]; omega), (Below.refl _ _).alloc (Nat.le_refl _) _⟩
    · go_enter Try.func51, Try.ntmps51
      go_wp2
      go_ret
      exact ⟨ret_bool (by simp [h1]; omega), (Below.refl _ _).alloc (Nat.le_refl _) _⟩
  · go_enter Try.func51, Try.ntmps51
    go_wp2
    go_ret
    exact ⟨ret_bool (by simp; omega), (Below.refl _ _).alloc (Nat.le_refl _) _⟩
end Go.Proofs.Ytjepnaefkfkpcaa
/- Counts of replicas: eight whole numbers; plain mathematics, and how they lie. No walk. -/
namespace Go.Proofs.Ytjepnaefkfkpcaa
set_option linter.unusedVariables false
set_option linter.unusedSimpArgs false
set_option maxRecDepth 100000
open Go.RowKit
abbrev arr8 (A : Nat → Int) : Array Value := #[.int .i64 (A 0), .int .i64 (A 1), .int .i64 (A 2), .int .i64 (A 3), .int .i64 (A 4), .int .i64 (A 5), .int .i64 (A 6), .int .i64 (A 7)]
abbrev vecV (A : Nat → Int) : Value := .agg #[.int .i64 (A 0), .int .i64 (A 1), .int .i64 (A 2), .int .i64 (A 3), .int .i64 (A 4), .int .i64 (A 5), .int .i64 (A 6), .int .i64 (A 7)]
theorem arr_get (A : Nat → Int) {k : Nat} (h : k < 8) : (arr8 A)[k]? = some (.int .i64 (A k)) := by
  match k, h with
  | 0, _ | 1, _ | 2, _ | 3, _ | 4, _ | 5, _ | 6, _ | 7, _ => rfl
theorem arr_set (A : Nat → Int) {k : Nat} (h : k < 8) (v : Int) : (arr8 A).setIfInBounds k (.int .i64 v) = arr8 (fun j => if j = k then v else A j) := by
  match k, h with
  | 0, _ | 1, _ | 2, _ | 3, _ | 4, _ | 5, _ | 6, _ | 7, _ => simp [arr8]
theorem arr_congr {A B : Nat → Int} (h : ∀ j, j < 8 → A j = B j) : arr8 A = arr8 B := by
  unfold arr8
  rw [h 0 (by omega), h 1 (by omega), h 2 (by omega), h 3 (by omega), h 4 (by omega), h 5 (by omega), h 6 (by omega), h 7 (by omega)]
def maxV (A B : Nat → Int) (k : Nat) : Int := if A k < B k then B k else A k
def mayV (A : Nat → Int) : Bool := (List.range 8).all fun k => (decide (0 ≤ A k) && decide (A k ≤ 1000))
def cntV (A : Nat → Int) (r : Int) : Int := if 1 ≤ r ∧ r ≤ 8 then A (r - 1).toNat else 0
def hasV (A : Nat → Int) (r c : Int) : Bool := decide (1 ≤ c) && decide (c ≤ cntV A r)
theorem mayV_iff {A : Nat → Int} : mayV A = true ↔ ∀ k, k < 8 → 0 ≤ A k ∧ A k ≤ 1000 := by simp [mayV, List.all_eq_true]
theorem mayV_false {A : Nat → Int} {k : Nat} (hk : k < 8) (h : A k < 0 ∨ 1000 < A k) : mayV A = false := by
  cases e : mayV A with
  | false => rfl
  | true => have := mayV_iff.1 e k hk; omega
/-! ### What follows -/
end Go.Proofs.Ytjepnaefkfkpcaa
