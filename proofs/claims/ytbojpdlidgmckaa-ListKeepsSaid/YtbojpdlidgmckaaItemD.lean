/- Walks of layer 2: whether an item may be, by the document's answer; which one comes behind. -/
import Derived.Test.YtbojpdlidgmckaaItemC
namespace Go.Proofs.Ytbojpdlidgmckaa
set_option linter.unusedVariables false
set_option linter.unusedSimpArgs false
open Go.RowKit

set_option maxHeartbeats 400000 in
theorem refMay_calls (id : ByteArray) (r c st : Int) (kd : ByteArray) (n : Int) (x y : Nat) (d : Bool) (w : World) (hi : id.size ≤ maxLen) (hk : kd.size ≤ maxLen) :
    Calls Try.prog 22 #[itemV id r c st kd n x y d] w fun e w' => e = .returned (.bool (mayI id r c st kd n x y)) ∧ Below w.heap.size w w' := by
  have H1 := fun w => Lib.hid (refName_calls id w hi)
  have H2 := fun w => Lib.hid (refText_calls kd w hk)
  have H3 := fun w => Lib.hid (refVer_calls r c w)
  have H6 := fun w => Lib.hid (place_calls x y w)
  clear hi hk
  unfold mayI inB
  go_enter Try.func22, Try.ntmps22
  go_wp2_with (first | (go_at_call 30; refine ((H1 _).out).mono ?_; rintro e w' ⟨rfl, rfl⟩) | (go_at_call 31; refine ((H2 _).out).mono ?_; rintro e w' ⟨rfl, rfl⟩) | (go_at_call 32; refine ((H3 _).out).mono ?_; rintro e w' ⟨rfl, hb⟩; obtain ⟨hc, hf⟩ := bcell hb) | (go_at_call 33; refine ((H6 _).out).mono ?_; rintro e w' ⟨rfl, rfl⟩))
  all_goals
    go_ret
    refine ⟨ret_bool ?_, ?_⟩
    · (try simp_all) <;> (try omega)
    · first | exact (Below.refl _ _).alloc (Nat.le_refl _) _ | exact below_new hb

/-- Which comes behind: 1, 0, -1. -/
def cmpI (a b : Int) : Int := if a < b then -1 else if b < a then 1 else 0
def orI (a b : Int) : Int := if a = 0 then b else a
def cmpV (st r c st' r' c' : Int) : Int := orI (cmpI st st') (orI (cmpI r r') (cmpI c c'))

set_option maxHeartbeats 400000 in
theorem isNaN_calls (a : Int) (w : World) :
    Calls Try.prog 48 #[.int .i64 a] w fun e w' => e = .returned (.bool false) ∧ w = w' := by
  go_enter Try.func48, Try.ntmps48
  go_wp2
  go_ret
  exact ⟨ret_bool (by simp), rfl⟩

set_option maxHeartbeats 400000 in
theorem cmp_calls (a b : Int) (w : World) :
    Calls Try.prog 44 #[.int .i64 a, .int .i64 b] w fun e w' => e = .returned (.int .i64 (cmpI a b)) ∧ w = w' := by
  have H := fun a w => Lib.hid (isNaN_calls a w)
  unfold cmpI
  by_cases h1 : a < b <;> by_cases h2 : b < a <;>
  first | (exfalso; omega) | (
    go_enter Try.func44, Try.ntmps44
    go_wp2_with (go_at_call 48; refine ((H _ _).out).mono ?_; rintro e w' ⟨rfl, rfl⟩)
    go_ret
    exact ⟨ret_int (by simp [h1, h2]), rfl⟩ )

def OrDone (a b c : Int) (i : Value) : Prop := i = .int .i64 0 ∨ (i = .int .i64 1 ∧ a = 0) ∨ (i = .int .i64 2 ∧ a = 0 ∧ b = 0) ∨ (i = .int .i64 3 ∧ a = 0 ∧ b = 0 ∧ c = 0)

set_option maxHeartbeats 400000 in
theorem or_calls (a b c : Int) (g : Nat) (w : World) (h0 : w.cell? ⟨g, 0, none⟩ = some (.int .i64 a)) (h1 : w.cell? ⟨g, 1, none⟩ = some (.int .i64 b)) (h2 : w.cell? ⟨g, 2, none⟩ = some (.int .i64 c)) :
    Calls Try.prog 43 #[.slice (some ⟨g, 0, none⟩) 3 3] w fun e w' => e = .returned (.int .i64 (orI a (orI b c))) ∧ w = w' := by
  go_enter Try.func43, Try.ntmps43
  go_wp2
  go_loop [5, 8] (fun _ i => OrDone a b c i) (fun _ i => 4 - (intOf i).toNat)
  case atStart => exact .inl rfl
  case round =>
    rcases hrel with rfl | ⟨rfl, h⟩ | ⟨rfl, h, h'⟩ | ⟨rfl, h, h', h''⟩
    · by_cases ha : a = 0
      · have e1 : (a == 0) = true := by simpa using ha
        have e2 : (a != 0) = false := by simpa using ha
        have E := Lib.hid ha
        clear ha
        go_wp2
        go_round
        case rel => exact .inr (.inl ⟨by go_num, E.out⟩)
        case measure => simp [intOf]
      · have e1 : (a == 0) = false := by simpa using ha
        have e2 : (a != 0) = true := by simpa using ha
        have E := Lib.hid ha
        clear ha
        go_wp2
        go_ret
        exact ⟨ret_int (by unfold orI; rw [if_neg E.out]), rfl⟩
    · have H := Lib.hid h
      clear h
      by_cases ha : b = 0
      · have e1 : (b == 0) = true := by simpa using ha
        have e2 : (b != 0) = false := by simpa using ha
        have E := Lib.hid ha
        clear ha
        go_wp2
        go_round
        case rel => exact .inr (.inr (.inl ⟨by go_num, H.out, E.out⟩))
        case measure => simp [intOf]
      · have e1 : (b == 0) = false := by simpa using ha
        have e2 : (b != 0) = true := by simpa using ha
        have E := Lib.hid ha
        clear ha
        go_wp2
        go_ret
        exact ⟨ret_int (by unfold orI; rw [if_pos H.out, if_neg E.out]), rfl⟩
    · have H := Lib.hid h
      have H' := Lib.hid h'
      clear h h'
      by_cases ha : c = 0
      · have e1 : (c == 0) = true := by simpa using ha
        have e2 : (c != 0) = false := by simpa using ha
        have E := Lib.hid ha
        clear ha
        go_wp2
        go_round
        case rel => exact .inr (.inr (.inr ⟨by go_num, H.out, H'.out, E.out⟩))
        case measure => simp [intOf]
      · have e1 : (c == 0) = false := by simpa using ha
        have e2 : (c != 0) = true := by simpa using ha
        clear ha
        go_wp2
        go_ret
        exact ⟨ret_int (by unfold orI; rw [if_pos H.out, if_pos H'.out]), rfl⟩
    · have H := Lib.hid h
      have H' := Lib.hid h'
      have H'' := Lib.hid h''
      clear h h' h''
      go_wp2
      go_ret
      exact ⟨ret_int (by unfold orI; rw [if_pos H.out, if_pos H'.out, H''.out]), rfl⟩

set_option maxHeartbeats 1000000 in
theorem compare_calls (id : ByteArray) (r c st : Int) (kd : ByteArray) (n : Int) (x y : Nat) (d : Bool) (id' : ByteArray) (r' c' st' : Int) (kd' : ByteArray) (n' : Int) (x' y' : Nat) (d' : Bool) (w : World) :
    Calls Try.prog 29 #[itemV id r c st kd n x y d, itemV id' r' c' st' kd' n' x' y' d'] w fun e w' => e = .returned (.int .i64 (cmpV st r c st' r' c')) ∧ Below w.heap.size w w' := by
  have H := fun a b w => Lib.hid (cmp_calls a b w)
  have O := fun a b c g w h0 h1 h2 => Lib.hid (or_calls a b c g w h0 h1 h2)
  go_enter Try.func29, Try.ntmps29
  go_wp2
  refine region_still_tail 19 (by kernel_rfl) (by kernel_rfl) ?_
  simp only [List.take_succ_cons, List.take_zero, List.drop_succ_cons, List.drop_zero]
  repeat (first | still_step | (refine wpStill_step (fun K hK => ?_); go_simp; refine ⟨_, still_of (H _ _ _).out, hK _ ?_⟩; clear hK K))
  refine wpStill_nil ?_
  go_wp2_with fail
  refine (O (cmpI st st') (cmpI r r') (cmpI c c') _ _ ?_ ?_ ?_).out.mono ?_
  rotate_left 3
  · rintro e w' ⟨rfl, rfl⟩
    go_wp2
    go_ret
    exact ⟨rfl, ((((Below.refl _ _).alloc (Nat.le_refl _) _).alloc (by simp) _).alloc (by simp; omega) _).drew⟩
  all_goals go_simp

set_option maxHeartbeats 1000000 in
theorem behind_calls (id : ByteArray) (r c st : Int) (kd : ByteArray) (n : Int) (x y : Nat) (d : Bool) (id' : ByteArray) (r' c' st' : Int) (kd' : ByteArray) (n' : Int) (x' y' : Nat) (d' : Bool) (w : World) :
    Calls Try.prog 23 #[itemV id r c st kd n x y d, itemV id' r' c' st' kd' n' x' y' d'] w fun e w' => e = .returned (.bool (decide (cmpV st r c st' r' c' = 1))) ∧ Below w.heap.size w w' := by
  by_cases h1 : st = st'
  · subst h1
    by_cases h2 : r = r'
    · subst h2
      have e : cmpV st r c st r c' = cmpI c c' := by simp [cmpV, orI, cmpI]
      rw [e]
      clear e
      unfold cmpI
      by_cases h3 : c' < c
      · have e : (if c < c' then (-1 : Int) else if c' < c then 1 else 0) = 1 := by rw [if_neg (by omega), if_pos h3]
        rw [e]; clear e
        go_enter Try.func23, Try.ntmps23
        go_wp2
        go_ret
        exact ⟨by simp, (((Below.refl _ _).alloc (Nat.le_refl _) _).alloc (by simp) _)⟩
      · have e : decide ((if c < c' then (-1 : Int) else if c' < c then 1 else 0) = 1) = false := by rw [if_neg h3]; split <;> simp
        rw [e]; clear e
        go_enter Try.func23, Try.ntmps23
        go_wp2
        go_ret
        exact ⟨by simp, (((Below.refl _ _).alloc (Nat.le_refl _) _).alloc (by simp) _)⟩
    · have e1 : (r == r') = false := by simpa using h2
      have e2 : (r != r') = true := by simpa using h2
      have e : decide (cmpV st r c st r' c' = 1) = decide (r' < r) := by
        rw [decide_eq_decide]
        simp only [cmpV, orI, cmpI]
        split <;> split <;> (try split) <;> simp_all <;> omega
      rw [e]
      clear e h2
      go_enter Try.func23, Try.ntmps23
      go_wp2
      go_ret
      exact ⟨by simp, (((Below.refl _ _).alloc (Nat.le_refl _) _).alloc (by simp) _)⟩
  · have e1 : (st == st') = false := by simpa using h1
    have e2 : (st != st') = true := by simpa using h1
    have e : decide (cmpV st r c st' r' c' = 1) = decide (st' < st) := by
      rw [decide_eq_decide]
      simp only [cmpV, orI, cmpI]
      split <;> (try split) <;> simp_all <;> omega
    rw [e]
    clear e h1
    go_enter Try.func23, Try.ntmps23
    go_wp2
    go_ret
    exact ⟨by simp, (((Below.refl _ _).alloc (Nat.le_refl _) _).alloc (by simp) _)⟩

end Go.Proofs.Ytbojpdlidgmckaa
