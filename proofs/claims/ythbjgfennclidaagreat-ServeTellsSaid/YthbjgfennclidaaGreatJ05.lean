/- Joined: PMay, ItemA, ItemB0, RefList2, ItemB. -/
import Derived.Test.YthbjgfennclidaaGreatRows
import Derived.Test.YthbjgfennclidaaGreatJ04
import Derived.WalkKit
import Derived.WalkSpells
import Derived.WalkLawsBesides
import Derived.Lib.Hide
import Derived.Test.YthbjgfennclidaaGreatJ01
/- Walks of place.May and of the document's answer for it. -/
namespace Go.Proofs.YthbjgfennclidaaGreat
set_option linter.unusedVariables false
set_option linter.unusedSimpArgs false
set_option maxRecDepth 100000
open Go.RowKit
theorem toIntegral_number (name : String) (b : Nat) (s : Bool) (m : Nat) (i : Int) (h : FloatKind.f64.decode b = .number s m i) :
    Extern.MathFloor.toIntegral name .zero #[.float .f64 b] = pure (.float .f64 (FloatKind.f64.encode ((Ieee.Datum.number s m i).integral .zero))) := by
  have key : ∀ d, FloatKind.f64.decode b = d → Extern.MathFloor.toIntegral name .zero #[.float .f64 b] =
      (match d with
      | .nan s t => if FloatKind.f64.format.quiet t = t then pure (.float .f64 b) else do
        let kept ← choose (.extern "math.Floor,Ceil,Trunc,RoundToEven.signallingNaN kept" 2)
        pure (.float .f64 (if kept == 1 then b else FloatKind.f64.encode (.nan s (FloatKind.f64.format.quiet t))))
      | d => pure (.float .f64 (FloatKind.f64.encode (d.integral .zero)))) := by
    intro d hd; subst hd; rfl
  exact key _ h
theorem run_trunc (b : Nat) (w : World) (hl : Fl.geLo b = true) (hh : Fl.leHi b = true) :
    (callFunc 229 #[.float .f64 b]).run Tryz.prog w = .ok (.value (.float .f64 (Fl.trunc b))) w := by
  rw [run_callFunc_extern (e := Extern.MathFloor.toIntegral "math.archTrunc" .zero) Tryz.func229 (by kernel_rfl) (by kernel_rfl) (by kernel_rfl) (by kernel_rfl)]
  obtain ⟨s, m, e, hr, hm⟩ := Fl.finite_of_range hl hh
  rw [toIntegral_number _ b s m _ hr]
  unfold Fl.trunc
  rw [hr]
  rfl
set_option maxRecDepth 100000 in
set_option maxHeartbeats 400000 in
theorem trunc_calls (b : Nat) (w : World) (hl : Fl.geLo b = true) (hh : Fl.leHi b = true) :
    Calls Tryz.prog 218 #[.float .f64 b] w fun e w' => e = .returned (.float .f64 (Fl.trunc b)) ∧ w = w' := by
  have h := run_trunc b w hl hh
  go_enter Tryz.func218, Tryz.ntmps218
  go_wp2
  go_ret
  exact ⟨rfl, rfl⟩
theorem inR (b : Nat) : (FloatKind.f64.format.order b 13875379345695965184 == some .gt || FloatKind.f64.format.order b 13875379345695965184 == some .eq) = Fl.geLo b := rfl
theorem inH (b : Nat) : (FloatKind.f64.format.order b 4652007308841189376 == some .lt || FloatKind.f64.format.order b 4652007308841189376 == some .eq) = Fl.leHi b := rfl
theorem inT (b : Nat) (hl : Fl.geLo b = true) (hh : Fl.leHi b = true) : (FloatKind.f64.format.order b (Fl.trunc b) == some .eq) = Fl.wb b := by
  simp only [Fl.wb, hl, hh, Bool.true_and]; rfl
set_option maxRecDepth 100000 in
set_option maxHeartbeats 400000 in
theorem whole_calls (b : Nat) (w : World) :
    Calls Tryz.prog 193 #[.float .f64 b] w fun e w' => e = .returned (.bool (Fl.wb b)) ∧ w = w' := by
  have e1 := inR b
  have e2 := inH b
  cases hl : Fl.geLo b
  · rw [show Fl.wb b = false by simp [Fl.wb, hl]]
    rw [hl] at e1
    go_enter Tryz.func193, Tryz.ntmps193
    go_wp2
    go_ret
    exact ⟨rfl, rfl⟩
  · cases hh : Fl.leHi b
    · rw [show Fl.wb b = false by simp [Fl.wb, hh]]
      rw [hl] at e1
      rw [hh] at e2
      go_enter Tryz.func193, Tryz.ntmps193
      go_wp2
      go_ret
      exact ⟨rfl, rfl⟩
    · have e3 := inT b hl hh
      rw [hl] at e1
      rw [hh] at e2
      generalize Fl.wb b = r at *
      have c := trunc_calls b w hl hh
      have C := Lib.hid c
      clear c hl hh
      go_enter Tryz.func193, Tryz.ntmps193
      go_wp2_with (go_at_call 218; refine (C.out).mono ?_; rintro e w' ⟨rfl, rfl⟩)
      go_ret
      exact ⟨rfl, rfl⟩
set_option maxRecDepth 100000 in
set_option maxHeartbeats 400000 in
theorem part_calls (b : Nat) (w : World) :
    Calls Tryz.prog 175 #[.float .f64 b] w fun e w' => e = .returned (.bool (Fl.wb b)) ∧ w = w' := by
  have e1 := inR b
  have e2 := inH b
  cases hl : Fl.geLo b
  · rw [show Fl.wb b = false by simp [Fl.wb, hl]]
    rw [hl] at e1
    go_enter Tryz.func175, Tryz.ntmps175
    go_wp2
    go_ret
    exact ⟨rfl, rfl⟩
  · cases hh : Fl.leHi b
    · rw [show Fl.wb b = false by simp [Fl.wb, hh]]
      rw [hl] at e1
      rw [hh] at e2
      go_enter Tryz.func175, Tryz.ntmps175
      go_wp2
      go_ret
      exact ⟨rfl, rfl⟩
    · have e3 : (FloatKind.f64.format.order (floatOfInt .f64 (Fl.iv b)) b == some .eq) = Fl.wb b :=
        Fl.back_wb hl hh (Fl.ofInt_int (by have := (Fl.trunc_int hl hh).2; omega))
      have c1 := run_convert_float_int (P := Tryz.prog) w 22 3 .f64 .i64 b (Fl.iv b) (by kernel_rfl) (by kernel_rfl) (Fl.toInt_range hl hh)
      have c2 := run_convert_int_float (P := Tryz.prog) w 3 22 .i64 .f64 (Fl.iv b) (by kernel_rfl) (by kernel_rfl)
      rw [hl] at e1
      rw [hh] at e2
      generalize Fl.wb b = r at *
      generalize Fl.iv b = n at *
      clear hl hh
      go_enter Tryz.func175, Tryz.ntmps175
      go_wp2
      go_ret
      exact ⟨rfl, rfl⟩
def mayB (a b : Nat) : Bool := Fl.wb a && Fl.wb b
set_option maxRecDepth 100000 in
set_option maxHeartbeats 400000 in
theorem may_calls (a b : Nat) (w : World) :
    Calls Tryz.prog 146 #[.complex .f64 a b] w fun e w' => e = .returned (.bool (mayB a b)) ∧ w = w' := by
  have H := fun x => Lib.hid (whole_calls x w)
  unfold mayB
  cases ha : Fl.wb a <;> cases hb : Fl.wb b <;>
  ( go_enter Tryz.func146, Tryz.ntmps146
    go_wp2_with (go_at_call 193; refine ((H _).out).mono ?_; (try rw [ha]); (try rw [hb]); rintro e w' ⟨rfl, rfl⟩)
    go_ret
    exact ⟨rfl, rfl⟩ )
set_option maxRecDepth 100000 in
set_option maxHeartbeats 400000 in
theorem place_calls (a b : Nat) (w : World) :
    Calls Tryz.prog 119 #[.complex .f64 a b] w fun e w' => e = .returned (.bool (mayB a b)) ∧ w = w' := by
  have H := fun x => Lib.hid (part_calls x w)
  unfold mayB
  cases ha : Fl.wb a <;> cases hb : Fl.wb b <;>
  ( go_enter Tryz.func119, Tryz.ntmps119
    go_wp2_with (go_at_call 175; refine ((H _).out).mono ?_; (try rw [ha]); (try rw [hb]); rintro e w' ⟨rfl, rfl⟩)
    go_ret
    exact ⟨rfl, rfl⟩ )
end Go.Proofs.YthbjgfennclidaaGreat
/- Walks of layer 2's texts and versions, and of the document's answer for them. -/
namespace Go.Proofs.YthbjgfennclidaaGreat
set_option linter.unusedVariables false
set_option linter.unusedSimpArgs false
set_option maxRecDepth 100000
open Go.RowKit
def low (c : UInt8) : Bool := decide (97 ≤ c.toNat) && decide (c.toNat ≤ 122)
def lows (l : List UInt8) : Bool := l.all low
def txtB (s : ByteArray) : Bool := decide (s.size ≤ 8) && lows s.data.toList
def nameB (s : ByteArray) : Bool := decide (1 ≤ s.size) && txtB s
def feq (x y : Nat) : Bool := FloatKind.f64.format.order x y == some .eq
theorem feq_self {x : Nat} (h : Fl.wb x = true) : feq x x = true := by
  have h1 := (Fl.wb_int h).1
  have h2 := Fl.order_int h1 h1
  unfold feq
  have h3 : FloatKind.f64.format.order x x = some (compare (Fl.iv x) (Fl.iv x)) := h2
  rw [h3]
  simp
theorem low_of {c : UInt8} (h1 : 97 ≤ c.toNat) (h2 : c.toNat ≤ 122) : low c = true := by simp [low, h1, h2]
theorem not_low_lt {c : UInt8} (h : c.toNat < 97) : low c = false := by simp [low]; omega
theorem not_low_gt {c : UInt8} (h : 122 < c.toNat) : low c = false := by simp [low]; omega
theorem take_snoc (s : ByteArray) (k : Nat) (h : k < s.size) : s.data.toList.take (k + 1) = s.data.toList.take k ++ [s[k]] := by
  rw [List.take_succ_eq_append_getElem (by simpa using h)]; rfl
theorem lows_snoc (s : ByteArray) (k : Nat) (h : k < s.size) (hl : lows (s.data.toList.take k) = true) : lows (s.data.toList.take (k + 1)) = low s[k] := by
  rw [take_snoc s k h]
  unfold lows at *
  rw [List.all_append, hl]; simp
theorem lows_false (s : ByteArray) (k : Nat) (h : k < s.size) (hl : low s[k] = false) : lows s.data.toList = false := by
  unfold lows
  rw [List.all_eq_false]
  refine ⟨s[k], ?_, by rw [hl]; simp⟩
  have h' : k < s.data.size := h
  show s.data[k] ∈ s.data.toList
  exact Array.mem_toList_iff.2 (Array.getElem_mem h')
theorem lows_all (s : ByteArray) (h : lows (s.data.toList.take s.size) = true) : lows s.data.toList = true := by
  rwa [List.take_of_length_le (by simp)] at h
set_option maxHeartbeats 400000 in
theorem text_calls (s : ByteArray) (w : World) :
    Calls Tryz.prog 143 #[.string s] w fun e w' => e = .returned (.bool (txtB s)) ∧ w = w' := by
  by_cases h8 : s.size ≤ 8
  · have e : txtB s = lows s.data.toList := by simp [txtB, h8]
    rw [e]
    have h9 : ¬ (8 : Int) < s.size := by omega
    clear e
    go_enter Tryz.func143, Tryz.ntmps143
    go_wp2
    go_loop [3, 9] (fun _ i => ∃ k : Nat, k ≤ s.size ∧ i = .int .i64 k ∧ lows (s.data.toList.take k) = true) (fun _ i => s.size - (intOf i).toNat)
    case atStart => exact ⟨0, Nat.zero_le _, rfl, by simp [lows]⟩
    case round =>
      obtain ⟨k, hk, rfl, hl⟩ := hrel
      by_cases hlt : k < s.size
      · have hn := lows_snoc s k hlt hl
        have HN := Lib.hid hn
        have HF := Lib.hid (lows_false s k hlt)
        clear hn
        have HL := Lib.hid hl
        clear hl
        by_cases a1 : s[k].toNat < 97
        · have hz := HF.out (not_low_lt a1)
          have HZ := Lib.hid hz
          clear hz HF HN
          go_wp2
          go_ret
          exact ⟨ret_bool HZ.out.symm, rfl⟩
        · by_cases a2 : 122 < s[k].toNat
          · have hz := HF.out (not_low_gt a2)
            have HZ := Lib.hid hz
            clear hz HF HN
            go_wp2
            go_ret
            exact ⟨ret_bool HZ.out.symm, rfl⟩
          · have hz := HN.out
            rw [low_of (by omega) (by omega)] at hz
            have HZ := Lib.hid hz
            clear hz HF HN
            go_wp2
            go_round
            case rel => exact ⟨k + 1, by omega, by go_num, HZ.out⟩
            case measure => simp [intOf]; omega
      · have e : k = s.size := by omega
        subst e
        have HL := Lib.hid (lows_all s hl)
        clear hl
        go_wp2
        go_ret
        exact ⟨ret_bool HL.out.symm, rfl⟩
  · have e : txtB s = false := by simp [txtB, h8]
    rw [e]
    have h9 : (8 : Int) < s.size := by omega
    go_enter Tryz.func143, Tryz.ntmps143
    go_wp2
    go_ret
    exact ⟨rfl, rfl⟩
end Go.Proofs.YthbjgfennclidaaGreat
/- Walks of the document's answer for texts, and of names. -/
namespace Go.Proofs.YthbjgfennclidaaGreat
set_option linter.unusedVariables false
set_option linter.unusedSimpArgs false
set_option maxRecDepth 100000
open Go.RowKit
theorem txt_of {s : ByteArray} (h8 : s.size ≤ 8) : txtB s = lows s.data.toList := by simp [txtB, h8]
theorem txt_far {s : ByteArray} (h8 : 8 < s.size) : txtB s = false := by simp [txtB]; omega
theorem txt_no {s : ByteArray} (h : lows s.data.toList = false) : txtB s = false := by simp [txtB, h]
set_option maxHeartbeats 400000 in
theorem letters_calls (s : ByteArray) (n : Int) (w : World) (hs : s.size ≤ maxLen) :
    Calls Tryz.prog 105 #[.string s, .int .i64 n] w fun e w' => e = .returned (.bool (txtB s && decide (n ≤ s.size))) ∧ w = w' := by
  unfold maxLen at hs
  go_enter Tryz.func105, Tryz.ntmps105
  go_wp2
  go_loop [5] (fun i => ∃ k : Nat, k ≤ s.size ∧ k ≤ 8 ∧ i = .int .i64 k ∧ lows (s.data.toList.take k) = true) (fun i => s.size - (intOf i).toNat)
  case atStart => exact ⟨0, Nat.zero_le _, by omega, rfl, by simp [lows]⟩
  case round =>
    obtain ⟨k, hk, hk8, rfl, hl⟩ := hrel
    by_cases hlt : k < s.size
    · by_cases h8 : k = 8
      · subst h8
        have HZ := Lib.hid (txt_far hlt)
        have HL := Lib.hid hl
        clear hl
        go_wp2
        go_ret
        exact ⟨ret_bool (by rw [HZ.out]; rfl), rfl⟩
      · have hn := lows_snoc s k hlt hl
        have HN := Lib.hid hn
        have HF := Lib.hid (lows_false s k hlt)
        clear hn
        have HL := Lib.hid hl
        clear hl
        have g8 : ((k : Int) == 8) = false := by rw [beq_eq_false_iff_ne]; omega
        by_cases a1 : s[k].toNat < 97
        · have HZ := Lib.hid (txt_no (HF.out (not_low_lt a1)))
          clear HF HN
          go_wp2
          go_ret
          exact ⟨ret_bool (by rw [HZ.out]; rfl), rfl⟩
        · by_cases a2 : 122 < s[k].toNat
          · have HZ := Lib.hid (txt_no (HF.out (not_low_gt a2)))
            clear HF HN
            go_wp2
            go_ret
            exact ⟨ret_bool (by rw [HZ.out]; rfl), rfl⟩
          · have hz := HN.out
            rw [low_of (by omega) (by omega)] at hz
            have HZ := Lib.hid hz
            clear hz HF HN
            have hk9 : k + 1 ≤ 8 := by omega
            clear h8 g8
            have g8 : ((k : Int) == 8) = false := by rw [beq_eq_false_iff_ne]; omega
            go_wp2
            go_round
            case rel => exact ⟨k + 1, by omega, hk9, by go_num, HZ.out⟩
            case measure => simp [intOf]; omega
    · have e : k = s.size := by omega
      subst e
      have HL := Lib.hid (lows_all s hl)
      have HT := Lib.hid (txt_of hk8)
      clear hl
      go_wp2
      go_ret
      exact ⟨ret_bool (by rw [HT.out, HL.out]; simp), rfl⟩
theorem size_zero_lit (s : ByteArray) (h : s.size = 0) : s = ⟨#[]⟩ := by
  cases s with
  | mk d => have : d.size = 0 := h; rw [Array.size_eq_zero_iff.1 this]
set_option maxHeartbeats 400000 in
theorem name_calls (s : ByteArray) (w : World) :
    Calls Tryz.prog 142 #[.string s] w fun e w' => e = .returned (.bool (nameB s)) ∧ w = w' := by
  have H := Lib.hid (text_calls s w)
  by_cases h : s.size = 0
  · have e := size_zero_lit s h
    subst e
    go_enter Tryz.func142, Tryz.ntmps142
    go_wp2
    go_ret
    exact ⟨ret_bool rfl, rfl⟩
  · have e : nameB s = txtB s := by simp [nameB]; omega
    rw [e]
    clear e
    have h1 : s.toList ≠ [] := by
      intro hz
      exact h (by have := congrArg List.length hz; rw [toList_size] at this; simpa using this)
    have h2 : s.toList.isEmpty = false := by rw [List.isEmpty_eq_false_iff]; exact h1
    generalize txtB s = r at *
    clear h
    go_enter Tryz.func142, Tryz.ntmps142
    go_wp2_with (go_at_call 143; refine (H.out).mono ?_; rintro e w' ⟨rfl, rfl⟩)
    go_ret
    exact ⟨rfl, rfl⟩
set_option maxHeartbeats 400000 in
theorem refText_calls (s : ByteArray) (w : World) (hs : s.size ≤ maxLen) :
    Calls Tryz.prog 158 #[.string s] w fun e w' => e = .returned (.bool (txtB s)) ∧ w = w' := by
  have H := Lib.hid (letters_calls s 0 w hs)
  have e : txtB s = (txtB s && decide ((0 : Int) ≤ s.size)) := by
    have : (0 : Int) ≤ s.size := by omega
    simp
  rw [e]
  clear e
  generalize (txtB s && decide ((0 : Int) ≤ s.size)) = r at *
  go_enter Tryz.func158, Tryz.ntmps158
  go_wp2_with (go_at_call 105; refine (H.out).mono ?_; rintro e w' ⟨rfl, rfl⟩)
  go_ret
  exact ⟨rfl, rfl⟩
end Go.Proofs.YthbjgfennclidaaGreat
/- Lists of items: the document's answers that look at all of them, walked. -/
namespace Go.Proofs.YthbjgfennclidaaGreat
set_option linter.unusedVariables false
set_option linter.unusedSimpArgs false
set_option maxRecDepth 100000
open Go.RowKit
def upB (a b : Itm) : Bool := !(Op.bytesLess b.id.toList a.id.toList || b.id.toList == a.id.toList)
def risesB : List Itm → Bool
  | a :: b :: l => upB a b && risesB (b :: l)
  | _ => true
theorem rises_iff {l : List Itm} : risesB l = true ↔ ∀ j a b, l[j]? = some a → l[j + 1]? = some b → upB a b = true := by
  induction l with
  | nil => simp [risesB]
  | cons a l ih =>
    cases l with
    | nil => simp [risesB]
    | cons b l =>
      simp only [risesB, Bool.and_eq_true, ih]
      constructor
      · rintro ⟨h1, h2⟩ j x y hx hy
        cases j with
        | zero => simp at hx hy; subst hx hy; exact h1
        | succ j => exact h2 j x y (by simpa using hx) (by simpa using hy)
      · intro h
        exact ⟨h 0 a b rfl rfl, fun j x y hx hy => h (j + 1) x y (by simpa using hx) (by simpa using hy)⟩
theorem rises_false {l : List Itm} {j : Nat} {a b : Itm} (ha : l[j]? = some a) (hb : l[j + 1]? = some b) (h : upB a b = false) : risesB l = false := by
  cases e : risesB l with
  | false => rfl
  | true => rw [rises_iff.1 e j a b ha hb] at h; cases h
def UpRel (l : List Itm) (len : Nat) (w : World) (iv : Value) (wr : World) : Prop :=
  ∃ m : Nat, m ≤ len ∧ iv = .int .i64 ((m : Int) + 1) ∧ Hid (∀ j a b, j < m → l[j]? = some a → l[j + 1]? = some b → upB a b = true) ∧ Hid (Below w.heap.size w wr)
set_option maxRecDepth 100000 in
set_option maxHeartbeats 4000000 in
theorem rises_calls (l : List Itm) (v : Value) (w : World) (hR : Row 8 ic w l v) :
    Calls Tryz.prog 107 #[v] w fun e w' => e = .returned (.bool (risesB l)) ∧ Below w.heap.size w w' := by
  obtain ⟨oa, cap, b, o, rfl, hr⟩ := hR
  have HR := Lib.hid hr
  have hcap := hr.len
  have hmax := hr.max
  unfold maxLen at hmax
  clear hr
  generalize hn : l.length = len at *
  have HN := Lib.hid hn
  clear hn
  go_enter Tryz.func107, Tryz.ntmps107
  go_wp2_with fail
  go_loopw [3] (fun iv wr => UpRel l len w iv wr) (fun iv _ => len - (intOf iv).toNat)
  case atStart => exact ⟨0, Nat.zero_le _, rfl, fun j a b hj => absurd hj (by omega), Below.refl _ _⟩
  case round =>
    obtain ⟨m, hm, rfl, HS, HB⟩ := hrel
    by_cases hlt : m + 1 < len
    · obtain ⟨i, hi9⟩ : ∃ i, l[m]? = some i := ⟨_, List.getElem?_eq_getElem (by rw [HN.out]; omega)⟩
      obtain ⟨y, hy9⟩ : ∃ y, l[m + 1]? = some y := ⟨_, List.getElem?_eq_getElem (by rw [HN.out]; omega)⟩
      obtain ⟨rfl, hb0⟩ := HR.out.at0 (by rw [HN.out]; omega)
      have c0 := (ic_cells (w := wr) (fun j u hu => (HB.out.cell (p := ⟨b, o + m * 8 + j, none⟩) hb0).trans (HR.out.cell m i hi9 j u hu))).1
      have d0 := (ic_cells (w := wr) (fun j u hu => (HB.out.cell (p := ⟨b, o + (m + 1) * 8 + j, none⟩) hb0).trans (HR.out.cell (m + 1) y hy9 j u hu))).1
      have r0 := fun dd os => cell_regrown c0 dd os
      have r1 := fun dd os => cell_regrown d0 dd os
      have k0 : (0 : Int) ≤ (m : Int) := by omega
      have k1 : (m : Int) < (len : Int) := by omega
      have k2 : (m : Int) + 1 < (len : Int) := by omega
      have k3 : (0 : Int) ≤ (m : Int) + 1 := by omega
      have k4 : (m : Int) + 1 - 1 = (m : Int) := by omega
      have k5 : ((m : Int) + 1).toNat = m + 1 := by omega
      have HI := Lib.hid hi9
      have HY := Lib.hid hy9
      clear c0 d0 hi9 hy9
      cases ht : upB i y
      · have E := Lib.hid (rises_false HI.out HY.out ht)
        have hg : (Op.bytesLess y.id.toList i.id.toList || y.id.toList == i.id.toList) = true := by unfold upB at ht; rw [Bool.not_eq_false'] at ht; exact ht
        clear ht
        go_wp2_with fail
        refine wp_region_quiet_below (by kernel_rfl) (by kernel_rfl) ?_
        repeat (first | go_big_quiet_step (fail) | quiet_step (fail))
        refine wpQuiet_nil ?_
        intro w7 hw'
        have hb' := Lib.hid (regrown_below hw')
        clear hw'
        go_wp2_with fail
        go_ret
        exact ⟨ret_bool E.out.symm, HB.out.trans (hb'.out.mono HB.out.size)⟩
      · have HS2 := Lib.hid (show ∀ j a b, j < m + 1 → l[j]? = some a → l[j + 1]? = some b → upB a b = true from fun j a b hj ha hb => by
          by_cases e : j = m
          · subst e; rw [HI.out] at ha; rw [HY.out] at hb; cases ha; cases hb; exact ht
          · exact HS.out j a b (by omega) ha hb)
        have hg : (Op.bytesLess y.id.toList i.id.toList || y.id.toList == i.id.toList) = false := by unfold upB at ht; rw [Bool.not_eq_true'] at ht; exact ht
        clear ht
        go_wp2_with fail
        refine wp_region_quiet_below (by kernel_rfl) (by kernel_rfl) ?_
        repeat (first | go_big_quiet_step (fail) | quiet_step (fail))
        refine wpQuiet_nil ?_
        intro w7 hw'
        have hb' := Lib.hid (regrown_below hw')
        clear hw'
        clear r0 r1
        go_wp2_with fail
        go_roundw
        case rel => exact ⟨m + 1, by omega, by go_num, HS2.out, Lib.hid (HB.out.trans (hb'.out.mono HB.out.size))⟩
        case measure => simp [intOf]; omega
    · have E := Lib.hid (rises_iff.2 fun j a b ha hb => HS.out j a b (by have := some_posI hb; rw [HN.out] at this; omega) ha hb)
      go_wp2_with fail
      go_ret
      exact ⟨ret_bool E.out.symm, HB.out⟩
def AllI (P : Itm → Bool) (l : List Itm) (len : Nat) (w : World) (iv : Value) (wr : World) : Prop :=
  ∃ k : Nat, k ≤ len ∧ iv = .int .i64 k ∧ Hid (∀ j a, j < k → l[j]? = some a → P a = true) ∧ Hid (Below w.heap.size w wr)
theorem allI_step {P : Itm → Bool} {l : List Itm} {k : Nat} {i : Itm} (h : ∀ j a, j < k → l[j]? = some a → P a = true) (hi : l[k]? = some i) (hp : P i = true) : ∀ j a, j < k + 1 → l[j]? = some a → P a = true := by
  intro j a hj ha
  by_cases e : j = k
  · subst e; rw [hi] at ha; cases ha; exact hp
  · exact h j a (by omega) ha
theorem allI_true {P : Itm → Bool} {l : List Itm} (h : ∀ j a, j < l.length → l[j]? = some a → P a = true) : l.all P = true := by
  rw [List.all_eq_true]
  intro x hx
  obtain ⟨j, hj, e⟩ := List.mem_iff_getElem.1 hx
  exact h j x hj (by rw [List.getElem?_eq_getElem hj, e])
theorem allI_false {P : Itm → Bool} {l : List Itm} {k : Nat} {i : Itm} (hi : l[k]? = some i) (hp : P i = false) : l.all P = false := by
  rw [List.all_eq_false]
  exact ⟨i, List.mem_of_getElem? hi, by rw [hp]; simp⟩
set_option maxRecDepth 100000 in
set_option maxHeartbeats 4000000 in
theorem mayList_calls (mayF : Itm → Bool) (HM : ∀ (i : Itm) (w : World), i.id.size ≤ maxLen → i.kd.size ≤ maxLen → Calls Tryz.prog 106 #[iV i] w fun e w' => e = .returned (.bool (mayF i)) ∧ Below w.heap.size w w')
    (l : List Itm) (v : Value) (w : World) (hR : Row 8 ic w l v) :
    Calls Tryz.prog 52 #[v] w fun e w' => e = .returned (.bool (l.all mayF && risesB l)) ∧ Below w.heap.size w w' := by
  have RI := fun w' (hb : Below w.heap.size w w') => Lib.hid (rises_calls l v w' (hR.later hb))
  obtain ⟨oa, cap, b, o, rfl, hr⟩ := hR
  have HR := Lib.hid hr
  have hcap := hr.len
  have hmax := hr.max
  unfold maxLen at hmax
  clear hr
  generalize hn : l.length = len at *
  have HN := Lib.hid hn
  clear hn
  generalize hrs : risesB l = rs at *
  clear hrs
  go_enter Tryz.func52, Tryz.ntmps52
  go_wp2_with fail
  go_loopw [3] (fun iv wr => AllI mayF l len w iv wr) (fun iv _ => len - (intOf iv).toNat)
  case atStart => exact ⟨0, Nat.zero_le _, rfl, fun j a hj => absurd hj (by omega), Below.refl _ _⟩
  case round =>
    obtain ⟨k, hk, rfl, HS, HB⟩ := hrel
    by_cases hlt : k < len
    · obtain ⟨i, hi9⟩ : ∃ i, l[k]? = some i := ⟨_, List.getElem?_eq_getElem (by rw [HN.out]; omega)⟩
      obtain ⟨rfl, hb0⟩ := HR.out.at0 (by rw [HN.out]; omega)
      obtain ⟨c0, c1, c2, c3, c4, c5, c6, c7⟩ := ic_cells (w := wr) (fun j u hu => (HB.out.cell (p := ⟨b, o + k * 8 + j, none⟩) hb0).trans (HR.out.cell k i hi9 j u hu))
      have hok := HR.out.ok i (List.mem_of_getElem? hi9)
      have C := HM i wr hok.1 hok.2
      have HI := Lib.hid hi9
      clear hi9 hok
      cases ht : mayF i
      · have E := Lib.hid (allI_false HI.out ht)
        rw [ht] at C
        have C := Lib.hid C
        clear ht
        go_wp2_with fail
        refine C.out.mono ?_; rintro e w2 ⟨rfl, hb2⟩
        go_wp2_with fail
        go_ret
        exact ⟨ret_bool (by rw [E.out]; rfl), HB.out.trans (hb2.mono HB.out.size)⟩
      · have HS2 := Lib.hid (allI_step HS.out HI.out ht)
        rw [ht] at C
        have C := Lib.hid C
        clear ht
        go_wp2_with fail
        refine C.out.mono ?_; rintro e w2 ⟨rfl, hb2⟩
        have HB2 := Lib.hid (HB.out.trans (hb2.mono HB.out.size))
        clear hb2
        go_wp2_with fail
        go_roundw
        case rel => exact ⟨k + 1, by omega, by go_num, HS2.out, HB2⟩
        case measure => simp [intOf]; omega
    · have E := Lib.hid (allI_true (l := l) fun j a hj ha => HS.out j a (by rw [HN.out] at hj; omega) ha)
      have C := Lib.hid (RI wr HB.out)
      go_wp2_with fail
      refine C.out.out.mono ?_; rintro e w2 ⟨rfl, hb2⟩
      go_wp2_with fail
      go_ret
      exact ⟨ret_bool (by rw [E.out]; rfl), HB.out.trans (hb2.mono HB.out.size)⟩
end Go.Proofs.YthbjgfennclidaaGreat
/- Walks of the document's answer for names and versions, and of the code's checks of numbers. -/
namespace Go.Proofs.YthbjgfennclidaaGreat
set_option linter.unusedVariables false
set_option linter.unusedSimpArgs false
set_option maxRecDepth 100000
open Go.RowKit
set_option maxHeartbeats 400000 in
theorem refName_calls (s : ByteArray) (w : World) (hs : s.size ≤ maxLen) :
    Calls Tryz.prog 49 #[.string s] w fun e w' => e = .returned (.bool (nameB s)) ∧ w = w' := by
  have H := Lib.hid (letters_calls s 1 w hs)
  have e : nameB s = (txtB s && decide ((1 : Int) ≤ s.size)) := by
    unfold nameB; rw [Bool.and_comm]; congr 1; rw [decide_eq_decide]; omega
  rw [e]
  clear e
  generalize (txtB s && decide ((1 : Int) ≤ s.size)) = r at *
  go_enter Tryz.func49, Tryz.ntmps49
  go_wp2_with (go_at_call 105; refine (H.out).mono ?_; rintro e w' ⟨rfl, rfl⟩)
  go_ret
  exact ⟨rfl, rfl⟩
def inB (n a b : Int) : Bool := decide (a ≤ n) && decide (n ≤ b)
def verB (r c : Int) : Bool := inB r 1 8 && inB c 1 1000
set_option maxHeartbeats 400000 in
theorem within_calls (n a b : Int) (w : World) :
    Calls Tryz.prog 145 #[.int .i64 n, .int .i64 a, .int .i64 b] w fun e w' => e = .returned (.bool (inB n a b)) ∧ w = w' := by
  unfold inB
  by_cases h : a ≤ n <;> by_cases h' : n ≤ b <;>
  ( go_enter Tryz.func145, Tryz.ntmps145
    go_wp2
    go_ret
    exact ⟨ret_bool (by simp [h, h']), rfl⟩ )
set_option maxHeartbeats 400000 in
theorem version_calls (r c : Int) (w : World) :
    Calls Tryz.prog 144 #[.agg #[.int .i64 r, .int .i64 c]] w fun e w' => e = .returned (.bool (verB r c)) ∧ Below w.heap.size w w' := by
  have H := fun n a b w => Lib.hid (within_calls n a b w)
  unfold verB
  cases h1 : inB r 1 8
  · go_enter Tryz.func144, Tryz.ntmps144
    go_wp2_with (go_at_call 145; refine ((H _ _ _ _).out).mono ?_; rintro e w' ⟨rfl, rfl⟩)
    go_ret
    exact ⟨rfl, (Below.refl _ _).alloc (Nat.le_refl _) _⟩
  · go_enter Tryz.func144, Tryz.ntmps144
    go_wp2_with (go_at_call 145; refine ((H _ _ _ _).out).mono ?_; rintro e w' ⟨rfl, rfl⟩)
    go_ret
    exact ⟨rfl, (Below.refl _ _).alloc (Nat.le_refl _) _⟩
set_option maxHeartbeats 400000 in
theorem refVer_calls (r c : Int) (w : World) :
    Calls Tryz.prog 50 #[.agg #[.int .i64 r, .int .i64 c]] w fun e w' => e = .returned (.bool (verB r c)) ∧ Below w.heap.size w w' := by
  unfold verB inB
  by_cases h1 : 1 ≤ r
  · by_cases h2 : r ≤ 8
    · by_cases h3 : 1 ≤ c
      · by_cases h4 : c ≤ 1000
        all_goals
          go_enter Tryz.func50, Tryz.ntmps50
          go_wp2
          go_ret
          exact ⟨ret_bool (by simp [h1, h2, h3, h4]), (Below.refl _ _).alloc (Nat.le_refl _) _⟩
      · go_enter Tryz.func50, Tryz.ntmps50
        go_wp2
        go_ret
        exact ⟨ret_bool (by simp [h1, h2, h3]; omega), (Below.refl _ _).alloc (Nat.le_refl _) _⟩
    · go_enter Tryz.func50, Tryz.ntmps50
      go_wp2
      go_ret
      exact ⟨ret_bool (by simp [h1]; omega), (Below.refl _ _).alloc (Nat.le_refl _) _⟩
  · go_enter Tryz.func50, Tryz.ntmps50
    go_wp2
    go_ret
    exact ⟨ret_bool (by simp; omega), (Below.refl _ _).alloc (Nat.le_refl _) _⟩
end Go.Proofs.YthbjgfennclidaaGreat
