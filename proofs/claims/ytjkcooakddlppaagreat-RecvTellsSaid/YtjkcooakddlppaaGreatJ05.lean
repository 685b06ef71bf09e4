/- Joined: ItemC, RefVec, ItemD, KnowW. -/
import Derived.Test.YtjkcooakddlppaaGreatJ04
import Derived.Test.YtjkcooakddlppaaGreatJ01
import Derived.Deep.CutBlock
import Derived.Deep.DeepCutAuto
/- Walks of layer 2: whether an item may be, by the code and by the document's answer; an item out of plain data. -/
namespace Go.Proofs.YtjkcooakddlppaaGreat
set_option linter.unusedVariables false
set_option linter.unusedSimpArgs false
set_option maxRecDepth 100000
open Go.RowKit
def mayI (id : ByteArray) (r c st : Int) (kd : ByteArray) (n : Int) (x y : Nat) : Bool :=
  nameB id && (txtB kd && (verB r c && (inB st 1 1000000 && (inB n (-1000000) 1000000 && mayB x y))))
set_option maxHeartbeats 400000 in
theorem itemMay_calls (id : ByteArray) (r c st : Int) (kd : ByteArray) (n : Int) (x y : Nat) (d : Bool) (w : World) :
    Calls Tryz.prog 87 #[itemV id r c st kd n x y d] w fun e w' => e = .returned (.bool (mayI id r c st kd n x y)) ∧ Below w.heap.size w w' := by
  have H1 := fun w => Lib.hid (name_calls id w)
  have H2 := fun w => Lib.hid (text_calls kd w)
  have H3 := fun w => Lib.hid (version_calls r c w)
  have H4 := fun a b c w => Lib.hid (within_calls a b c w)
  have H6 := fun w => Lib.hid (may_calls x y w)
  unfold mayI
  go_enter Tryz.func87, Tryz.ntmps87
  go_wp2_with (first | (go_at_call 111; refine ((H1 _).out).mono ?_; rintro e w' ⟨rfl, rfl⟩) | (go_at_call 132; refine ((H2 _).out).mono ?_; rintro e w' ⟨rfl, rfl⟩) | (go_at_call 133; refine ((H3 _).out).mono ?_; rintro e w' ⟨rfl, hb⟩; obtain ⟨hc, hf⟩ := bcell hb) | (go_at_call 134; refine ((H4 _ _ _ _).out).mono ?_; rintro e w' ⟨rfl, rfl⟩) | (go_at_call 135; refine ((H6 _).out).mono ?_; rintro e w' ⟨rfl, rfl⟩))
  all_goals
    go_ret
    refine ⟨ret_bool (by simp_all), ?_⟩
    first | exact (Below.refl _ _).alloc (Nat.le_refl _) _ | exact below_new hb
end Go.Proofs.YtjkcooakddlppaaGreat
/- Counts of replicas: the document's answers, walked. -/
namespace Go.Proofs.YtjkcooakddlppaaGreat
set_option linter.unusedVariables false
set_option linter.unusedSimpArgs false
set_option maxRecDepth 100000
open Go.RowKit
theorem cnt_out {A : Nat → Int} {r : Int} (h : r < 1 ∨ 8 < r) : cntV A r = 0 := by unfold cntV; rw [if_neg (by omega)]
theorem cnt_in {A : Nat → Int} {k : Nat} (h : k < 8) : cntV A ((k : Int) + 1) = A k := by
  unfold cntV
  rw [if_pos (by omega)]
  congr 1
  omega
set_option maxHeartbeats 1000000 in
theorem count_calls (A : Nat → Int) (r : Int) (w : World) :
    Calls Tryz.prog 84 #[vecV A, .int .i64 r] w fun e w' => e = .returned (.int .i64 (cntV A r)) ∧ Below w.heap.size w w' := by
  have HB := Lib.hid ((Below.refl w.heap.size w).alloc (Nat.le_refl _) (.cells (arr8 A) 28))
  by_cases h1 : r < 1
  · have E := Lib.hid (cnt_out (A := A) (.inl h1))
    have g1 : decide (r < 1) = true := decide_eq_true h1
    go_enter Tryz.func84, Tryz.ntmps84
    go_wp2_with fail
    go_ret
    exact ⟨by rw [E.out]; rfl, HB.out⟩
  by_cases h2 : 8 < r
  · have E := Lib.hid (cnt_out (A := A) (.inr h2))
    have g1 : decide (r < 1) = false := decide_eq_false h1
    have g2 : decide (8 < r) = true := decide_eq_true h2
    go_enter Tryz.func84, Tryz.ntmps84
    go_wp2_with fail
    go_ret
    exact ⟨by rw [E.out]; rfl, HB.out⟩
  · obtain ⟨k, rfl⟩ : ∃ k : Nat, r = (k : Int) + 1 := ⟨(r - 1).toNat, by omega⟩
    have hk : k < 8 := by omega
    have E := Lib.hid (cnt_in (A := A) hk)
    have g1 : decide ((k : Int) + 1 < 1) = false := decide_eq_false h1
    have g2 : decide (8 < (k : Int) + 1) = false := decide_eq_false h2
    have g3 : (k : Int) + 1 - 1 = (k : Int) := by omega
    have c := ((Own.new w (arr8 A) 28).cell k).trans (arr_get A hk)
    have k0 : (0 : Int) ≤ (k : Int) := by omega
    have k1 : (k : Int) < 8 := by omega
    clear h1 h2
    go_enter Tryz.func84, Tryz.ntmps84
    go_wp2_with fail
    go_ret
    exact ⟨by rw [E.out]; rfl, HB.out⟩
set_option maxHeartbeats 1000000 in
theorem hasVec_calls (A : Nat → Int) (r c : Int) (w : World) :
    Calls Tryz.prog 100 #[vecV A, .agg #[.int .i64 r, .int .i64 c]] w fun e w' => e = .returned (.bool (hasV A r c)) ∧ Below w.heap.size w w' := by
  have G1 := Lib.hid ((Has.new w (arr8 A) 28).alloc (.cells #[.int .i64 r, .int .i64 c] 37))
  have G2 := Lib.hid ((Own.newAt (w.alloc (.cells (arr8 A) 28)) #[.int .i64 r, .int .i64 c] 37 (b := w.heap.size + 1) (by simp)).has)
  have LA := fun dd os o => G1.out.regrown dd os o
  have LB := fun dd os o => G2.out.regrown dd os o
  have m := fun dd os => Lib.hid (Calls.regrown_of (count_calls A r (Sort.grow (redrawn ((w.alloc (.cells (arr8 A) 28)).alloc (.cells #[.int .i64 r, .int .i64 c] 37)) dd) os)))
  unfold hasV
  generalize cntV A r = n at *
  cases hg : decide (1 ≤ c)
  all_goals
    go_enter Tryz.func100, Tryz.ntmps100
    go_wp2_with fail
    refine wp_region_quiet_below (by kernel_rfl) (by kernel_rfl) ?_
    repeat (first | go_big_quiet_step ((with_reducible exact (m _ _).out)) | quiet_step (with_reducible exact (m _ _).out))
    refine wpQuiet_nil ?_
    intro w7 hw'
    have hb' := Lib.hid (regrown_below hw')
    clear hw'
    go_wp2_with fail
    go_ret
    exact ⟨ret_bool (by simp), below_new (below_new hb'.out)⟩
def VAllRel (P : Nat → Prop) (w0 : World) (i : Value) (wr : World) : Prop := ∃ k : Nat, k ≤ 8 ∧ i = .int .i64 k ∧ Hid (∀ j, j < k → P j) ∧ Below w0.heap.size w0 wr
theorem all_step {P : Nat → Prop} {k : Nat} (h : ∀ j, j < k → P j) (hk : P k) : ∀ j, j < k + 1 → P j := by
  intro j hj
  by_cases e : j = k
  · rw [e]; exact hk
  · exact h j (by omega)
set_option maxHeartbeats 2000000 in
theorem mayVec_calls (A : Nat → Int) (w : World) :
    Calls Tryz.prog 82 #[vecV A] w fun e w' => e = .returned (.bool (mayV A)) ∧ Below w.heap.size w w' := by
  go_enter Tryz.func82, Tryz.ntmps82
  go_wp2_with fail
  go_loopw [3] (fun i wr => VAllRel (fun j => 0 ≤ A j ∧ A j ≤ 1000) (w.alloc (.cells (arr8 A) 28)) i wr) (fun i _ => 8 - (intOf i).toNat)
  case atStart => exact ⟨0, by omega, rfl, fun j hj => absurd hj (by omega), Below.refl _ _⟩
  case round =>
    obtain ⟨k, hk, rfl, HS, hb⟩ := hrel
    have BW := Lib.hid (below_new hb)
    have G1 := Lib.hid ((Has.new w (arr8 A) 28).below hb (by simp))
    have HB := Lib.hid hb
    clear hb
    by_cases hlt : k < 8
    · have c := (G1.out.cell k).trans (arr_get A hlt)
      have k0 : (0 : Int) ≤ (k : Int) := by omega
      have k1 : (k : Int) < 8 := by omega
      by_cases h : A k < 0
      · have E := Lib.hid (mayV_false hlt (.inl h))
        have g : decide (A k < 0) = true := decide_eq_true h
        go_wp2_with fail
        go_ret
        exact ⟨ret_bool E.out.symm, BW.out⟩
      by_cases h' : 1000 < A k
      · have E := Lib.hid (mayV_false hlt (.inr h'))
        have g : decide (A k < 0) = false := decide_eq_false h
        have g' : decide (1000 < A k) = true := decide_eq_true h'
        go_wp2_with fail
        go_ret
        exact ⟨ret_bool E.out.symm, BW.out⟩
      · have HN := Lib.hid (all_step (P := fun j => 0 ≤ A j ∧ A j ≤ 1000) HS.out (by omega))
        have g : decide (A k < 0) = false := decide_eq_false h
        have g' : decide (1000 < A k) = false := decide_eq_false h'
        go_wp2_with fail
        go_roundw
        case rel => exact ⟨k + 1, by omega, by go_num, HN.out, HB.out⟩
        case measure => simp [intOf]; omega
    · have e : k = 8 := by omega
      subst e
      have E := Lib.hid (mayV_iff.2 HS.out)
      go_wp2_with fail
      go_ret
      exact ⟨ret_bool E.out.symm, BW.out⟩
def upTo (k : Nat) (M : Nat → Int) (j : Nat) : Int := if j < k then M j else 0
theorem upTo_step (M : Nat → Int) (k : Nat) : (fun j => if j = k then M k else upTo k M j) = upTo (k + 1) M := by
  funext j; unfold upTo; split
  · rename_i h; rw [h, if_pos (by omega)]
  · split
    · rw [if_pos (by omega)]
    · rw [if_neg (by omega)]
structure MSt (A B M : Nat → Int) (k : Nat) (w wr : World) : Prop where
  o1 : Own wr w.heap.size (arr8 A) 28
  o2 : Own wr (w.heap.size + 1) (arr8 B) 28
  o3 : Own wr (w.heap.size + 1 + 1) (arr8 fun _ => 0) 28
  o4 : Own wr (w.heap.size + 1 + 1 + 1) (arr8 (upTo k M)) 28
  bel : Below w.heap.size w wr
theorem MSt.later {A B M : Nat → Int} {k : Nat} {w wr w' : World} (h : MSt A B M k w wr) (hb : Below wr.heap.size wr w') : MSt A B M k w w' :=
  ⟨h.o1.later hb, h.o2.later hb, h.o3.later hb, h.o4.later hb, h.bel.trans (hb.mono h.bel.size)⟩
theorem MSt.put {A B M : Nat → Int} {k : Nat} {w wr : World} (h : MSt A B M k w wr) (hk : k < 8) (v : Int) :
    Own (wr.setCell ⟨w.heap.size + 1 + 1 + 1, k, none⟩ (.int .i64 v)) (w.heap.size + 1 + 1 + 1) (arr8 (fun j => if j = k then v else upTo k M j)) 28 ∧ ∀ F, Own wr (w.heap.size + 1 + 1 + 1) (arr8 F) 28 → Own (wr.setCell ⟨w.heap.size + 1 + 1 + 1, k, none⟩ (.int .i64 v)) (w.heap.size + 1 + 1 + 1) (arr8 (fun j => if j = k then v else F j)) 28 := by
  refine ⟨?_, fun F hF => ?_⟩
  · rw [← arr_set _ hk]; exact h.o4.set k _
  · rw [← arr_set _ hk]; exact hF.set k _
theorem MSt.step {A B M : Nat → Int} {k : Nat} {w wr w' : World} (h : MSt A B M k w wr) (h1 : Own w' w.heap.size (arr8 A) 28) (h2 : Own w' (w.heap.size + 1) (arr8 B) 28) (h3 : Own w' (w.heap.size + 1 + 1) (arr8 fun _ => 0) 28)
    (h4 : Own w' (w.heap.size + 1 + 1 + 1) (arr8 (fun j => if j = k then M k else upTo k M j)) 28) (hb : Below w.heap.size w w') : MSt A B M (k + 1) w w' :=
  ⟨h1, h2, h3, by rw [← upTo_step]; exact h4, hb⟩
def MxRel (A B M : Nat → Int) (w : World) (i : Value) (wr : World) : Prop := ∃ k : Nat, k ≤ 8 ∧ i = .int .i64 k ∧ Hid (MSt A B M k w wr)
end Go.Proofs.YtjkcooakddlppaaGreat
/- Walks of layer 2: whether an item may be, by the document's answer; which one comes behind. -/
namespace Go.Proofs.YtjkcooakddlppaaGreat
set_option linter.unusedVariables false
set_option linter.unusedSimpArgs false
set_option maxRecDepth 100000
open Go.RowKit
set_option maxHeartbeats 400000 in
theorem refMay_calls (id : ByteArray) (r c st : Int) (kd : ByteArray) (n : Int) (x y : Nat) (d : Bool) (w : World) (hi : id.size ≤ maxLen) (hk : kd.size ≤ maxLen) :
    Calls Tryz.prog 46 #[itemV id r c st kd n x y d] w fun e w' => e = .returned (.bool (mayI id r c st kd n x y)) ∧ Below w.heap.size w w' := by
  have H1 := fun w => Lib.hid (refName_calls id w hi)
  have H2 := fun w => Lib.hid (refText_calls kd w hk)
  have H3 := fun w => Lib.hid (refVer_calls r c w)
  have H6 := fun w => Lib.hid (place_calls x y w)
  clear hi hk
  unfold mayI inB
  go_enter Tryz.func46, Tryz.ntmps46
  go_wp2_with (first | (go_at_call 83; refine ((H1 _).out).mono ?_; rintro e w' ⟨rfl, rfl⟩) | (go_at_call 98; refine ((H2 _).out).mono ?_; rintro e w' ⟨rfl, rfl⟩) | (go_at_call 54; refine ((H3 _).out).mono ?_; rintro e w' ⟨rfl, hb⟩; obtain ⟨hc, hf⟩ := bcell hb) | (go_at_call 99; refine ((H6 _).out).mono ?_; rintro e w' ⟨rfl, rfl⟩))
  all_goals
    go_ret
    refine ⟨ret_bool ?_, ?_⟩
    · (try simp_all) <;> (try omega)
    · first | exact (Below.refl _ _).alloc (Nat.le_refl _) _ | exact below_new hb
def cmpI (a b : Int) : Int := if a < b then -1 else if b < a then 1 else 0
def orI (a b : Int) : Int := if a = 0 then b else a
def cmpV (st r c st' r' c' : Int) : Int := orI (cmpI st st') (orI (cmpI r r') (cmpI c c'))
set_option maxHeartbeats 400000 in
theorem isNaN_calls (a : Int) (w : World) :
    Calls Tryz.prog 139 #[.int .i64 a] w fun e w' => e = .returned (.bool false) ∧ w = w' := by
  go_enter Tryz.func139, Tryz.ntmps139
  go_wp2
  go_ret
  exact ⟨ret_bool (by simp), rfl⟩
set_option maxHeartbeats 400000 in
theorem cmp_calls (a b : Int) (w : World) :
    Calls Tryz.prog 91 #[.int .i64 a, .int .i64 b] w fun e w' => e = .returned (.int .i64 (cmpI a b)) ∧ w = w' := by
  have H := fun a w => Lib.hid (isNaN_calls a w)
  unfold cmpI
  by_cases h1 : a < b <;> by_cases h2 : b < a <;>
  first | (exfalso; omega) | (
    go_enter Tryz.func91, Tryz.ntmps91
    go_wp2_with (go_at_call 139; refine ((H _ _).out).mono ?_; rintro e w' ⟨rfl, rfl⟩)
    go_ret
    exact ⟨ret_int (by simp [h1, h2]), rfl⟩ )
def OrDone (a b c : Int) (i : Value) : Prop := i = .int .i64 0 ∨ (i = .int .i64 1 ∧ a = 0) ∨ (i = .int .i64 2 ∧ a = 0 ∧ b = 0) ∨ (i = .int .i64 3 ∧ a = 0 ∧ b = 0 ∧ c = 0)
set_option maxHeartbeats 400000 in
theorem or_calls (a b c : Int) (g : Nat) (w : World) (h0 : w.cell? ⟨g, 0, none⟩ = some (.int .i64 a)) (h1 : w.cell? ⟨g, 1, none⟩ = some (.int .i64 b)) (h2 : w.cell? ⟨g, 2, none⟩ = some (.int .i64 c)) :
    Calls Tryz.prog 90 #[.slice (some ⟨g, 0, none⟩) 3 3] w fun e w' => e = .returned (.int .i64 (orI a (orI b c))) ∧ w = w' := by
  go_enter Tryz.func90, Tryz.ntmps90
  go_wp2
  go_loop [5, 8] (fun _ i => OrDone a b c i) (fun _ i => 4 - (intOf i).toNat)
  case atStart => exact .inl rfl
  case round =>
    rcases hrel with rfl | ⟨rfl, h⟩ | ⟨rfl, h, h'⟩ | ⟨rfl, h, h', h''⟩
    · by_cases ha : a = 0
      · have e1 : (a == 0) = true := by simpa using ha
        have e2 : (a != 0) = false := by simpa using ha
        have E := Lib.hid ha
        clear ha
        go_wp2
        go_round
        case rel => exact .inr (.inl ⟨by go_num, E.out⟩)
        case measure => simp [intOf]
      · have e1 : (a == 0) = false := by simpa using ha
        have e2 : (a != 0) = true := by simpa using ha
        have E := Lib.hid ha
        clear ha
        go_wp2
        go_ret
        exact ⟨ret_int (by unfold orI; rw [if_neg E.out]), rfl⟩
    · have H := Lib.hid h
      clear h
      by_cases ha : b = 0
      · have e1 : (b == 0) = true := by simpa using ha
        have e2 : (b != 0) = false := by simpa using ha
        have E := Lib.hid ha
        clear ha
        go_wp2
        go_round
        case rel => exact .inr (.inr (.inl ⟨by go_num, H.out, E.out⟩))
        case measure => simp [intOf]
      · have e1 : (b == 0) = false := by simpa using ha
        have e2 : (b != 0) = true := by simpa using ha
        have E := Lib.hid ha
        clear ha
        go_wp2
        go_ret
        exact ⟨ret_int (by unfold orI; rw [if_pos H.out, if_neg E.out]), rfl⟩
    · have H := Lib.hid h
      have H' := Lib.hid h'
      clear h h'
      by_cases ha : c = 0
      · have e1 : (c == 0) = true := by simpa using ha
        have e2 : (c != 0) = false := by simpa using ha
        have E := Lib.hid ha
        clear ha
        go_wp2
        go_round
        case rel => exact .inr (.inr (.inr ⟨by go_num, H.out, H'.out, E.out⟩))
        case measure => simp [intOf]
      · have e1 : (c == 0) = false := by simpa using ha
        have e2 : (c != 0) = true := by simpa using ha
        clear ha
        go_wp2
        go_ret
        exact ⟨ret_int (by unfold orI; rw [if_pos H.out, if_pos H'.out]), rfl⟩
    · have H := Lib.hid h
      have H' := Lib.hid h'
      have H'' := Lib.hid h''
      clear h h' h''
      go_wp2
      go_ret
      exact ⟨ret_int (by unfold orI; rw [if_pos H.out, if_pos H'.out, H''.out]), rfl⟩
set_option maxHeartbeats 1000000 in
theorem compare_calls (id : ByteArray) (r c st : Int) (kd : ByteArray) (n : Int) (x y : Nat) (d : Bool) (id' : ByteArray) (r' c' st' : Int) (kd' : ByteArray) (n' : Int) (x' y' : Nat) (d' : Bool) (w : World) :
    Calls Tryz.prog 41 #[itemV id r c st kd n x y d, itemV id' r' c' st' kd' n' x' y' d'] w fun e w' => e = .returned (.int .i64 (cmpV st r c st' r' c')) ∧ Below w.heap.size w w' := by
  have H := fun a b w => Lib.hid (cmp_calls a b w)
  have O := fun a b c g w h0 h1 h2 => Lib.hid (or_calls a b c g w h0 h1 h2)
  go_enter Tryz.func41, Tryz.ntmps41
  go_wp2
  refine region_still_tail 19 (by kernel_rfl) (by kernel_rfl) ?_
  simp only [List.take_succ_cons, List.take_zero, List.drop_succ_cons, List.drop_zero]
  repeat (first | still_step | (refine wpStill_step (fun K hK => ?_); go_simp; refine ⟨_, still_of (H _ _ _).out, hK _ ?_⟩; clear hK K))
  refine wpStill_nil ?_
  go_wp2_with fail
  refine (O (cmpI st st') (cmpI r r') (cmpI c c') _ _ ?_ ?_ ?_).out.mono ?_
  rotate_left 3
  · rintro e w' ⟨rfl, rfl⟩
    go_wp2
    go_ret
    exact ⟨rfl, ((((Below.refl _ _).alloc (Nat.le_refl _) _).alloc (by simp) _).alloc (by simp; omega) _).drew⟩
  all_goals go_simp
set_option maxHeartbeats 1000000 in
theorem behind_calls (id : ByteArray) (r c st : Int) (kd : ByteArray) (n : Int) (x y : Nat) (d : Bool) (id' : ByteArray) (r' c' st' : Int) (kd' : ByteArray) (n' : Int) (x' y' : Nat) (d' : Bool) (w : World) :
    Calls Tryz.prog 28 #[itemV id r c st kd n x y d, itemV id' r' c' st' kd' n' x' y' d'] w fun e w' => e = .returned (.bool (decide (cmpV st r c st' r' c' = 1))) ∧ Below w.heap.size w w' := by
  by_cases h1 : st = st'
  · subst h1
    by_cases h2 : r = r'
    · subst h2
      have e : cmpV st r c st r c' = cmpI c c' := by simp [cmpV, orI, cmpI]
      rw [e]
      clear e
      unfold cmpI
      by_cases h3 : c' < c
      · have e : (if c < c' then (-1 : Int) else if c' < c then 1 else 0) = 1 := by rw [if_neg (by omega), if_pos h3]
        rw [e]; clear e
        go_enter Tryz.func28, Tryz.ntmps28
        go_wp2
        go_ret
        exact ⟨by simp, (((Below.refl _ _).alloc (Nat.le_refl _) _).alloc (by simp) _)⟩
      · have e : decide ((if c < c' then (-1 : Int) else if c' < c then 1 else 0) = 1) = false := by rw [if_neg h3]; split <;> simp
        rw [e]; clear e
        go_enter Tryz.func28, Tryz.ntmps28
        go_wp2
        go_ret
        exact ⟨by simp, (((Below.refl _ _).alloc (Nat.le_refl _) _).alloc (by simp) _)⟩
    · have e1 : (r == r') = false := by simpa using h2
      have e2 : (r != r') = true := by simpa using h2
      have e : decide (cmpV st r c st r' c' = 1) = decide (r' < r) := by
        rw [decide_eq_decide]
        simp only [cmpV, orI, cmpI]
        split <;> split <;> (try split) <;> simp_all <;> omega
      rw [e]
      clear e h2
      go_enter Tryz.func28, Tryz.ntmps28
      go_wp2
      go_ret
      exact ⟨by simp, (((Below.refl _ _).alloc (Nat.le_refl _) _).alloc (by simp) _)⟩
  · have e1 : (st == st') = false := by simpa using h1
    have e2 : (st != st') = true := by simpa using h1
    have e : decide (cmpV st r c st' r' c' = 1) = decide (st' < st) := by
      rw [decide_eq_decide]
      simp only [cmpV, orI, cmpI]
      split <;> (try split) <;> simp_all <;> omega
    rw [e]
    clear e h1
    go_enter Tryz.func28, Tryz.ntmps28
    go_wp2
    go_ret
    exact ⟨by simp, (((Below.refl _ _).alloc (Nat.le_refl _) _).alloc (by simp) _)⟩
end Go.Proofs.YtjkcooakddlppaaGreat
/- What is known: how it lies. No walk. -/
namespace Go.Proofs.YtjkcooakddlppaaGreat
set_option linter.unusedVariables false
set_option linter.unusedSimpArgs false
set_option maxRecDepth 100000
open Go.RowKit
structure TxAt (w : World) (l : List ByteArray) (oa : Option Addr) (cap b o : Nat) : Prop where
  len : l.length ≤ cap
  max : cap ≤ maxLen
  at0 : 0 < l.length → oa = some ⟨b, o, none⟩ ∧ b < w.heap.size
  cell : ∀ k s, l[k]? = some s → w.cell? ⟨b, o + k, none⟩ = some (.string s)
  ok : ∀ s ∈ l, s.size ≤ maxLen
def TxW (w : World) (l : List ByteArray) (v : Value) : Prop := ∃ oa cap b o, v = .slice oa l.length cap ∧ TxAt w l oa cap b o
theorem posA {α : Type} {l : List α} {k : Nat} {a : α} (h : l[k]? = some a) : k < l.length := (List.getElem?_eq_some_iff.1 h).1
theorem TxAt.later {w w' : World} {l : List ByteArray} {oa : Option Addr} {cap b o B : Nat} (h : TxAt w l oa cap b o) (hb : Below B w w') (hB : w.heap.size ≤ B) : TxAt w' l oa cap b o := by
  refine ⟨h.len, h.max, fun h0 => ⟨(h.at0 h0).1, Nat.lt_of_lt_of_le (h.at0 h0).2 hb.size⟩, fun k s hk => ?_, h.ok⟩
  have hlt : b < w.heap.size := (h.at0 (by have := posA hk; omega)).2
  exact (hb.cell (p := ⟨b, o + k, none⟩) (by show b < B; omega)).trans (h.cell k s hk)
theorem TxW.later {w w' : World} {l : List ByteArray} {v : Value} {B : Nat} (h : TxW w l v) (hb : Below B w w') (hB : w.heap.size ≤ B) : TxW w' l v := by
  obtain ⟨oa, cap, b, o, e, h⟩ := h
  exact ⟨oa, cap, b, o, e, h.later hb hB⟩
theorem TxW.val {w : World} {l : List ByteArray} {v : Value} (h : TxW w l v) : ∃ oa cap, v = .slice oa l.length cap := by
  obtain ⟨oa, cap, _, _, e, _⟩ := h
  exact ⟨oa, cap, e⟩
theorem TxW.ok {w : World} {l : List ByteArray} {v : Value} (h : TxW w l v) : ∀ s ∈ l, s.size ≤ maxLen := by
  obtain ⟨_, _, _, _, _, h⟩ := h
  exact h.ok
abbrev fc (f : Fr) (u : Value) : List Value := [u, .int .i64 (f.v 0), .int .i64 (f.v 1), .int .i64 (f.v 2), .int .i64 (f.v 3), .int .i64 (f.v 4), .int .i64 (f.v 5), .int .i64 (f.v 6), .int .i64 (f.v 7)]
structure FrAt (w : World) (l : List Fr) (U : Nat → Value) (oa : Option Addr) (cap b o : Nat) : Prop where
  len : l.length ≤ cap
  max : cap ≤ maxLen
  at0 : 0 < l.length → oa = some ⟨b, o, none⟩ ∧ b < w.heap.size
  cell : ∀ k f, l[k]? = some f → ∀ j u, (fc f (U k))[j]? = some u → w.cell? ⟨b, o + k * 9 + j, none⟩ = some u
  ids : ∀ k f, l[k]? = some f → TxW w f.ids (U k)
def FrW (w : World) (l : List Fr) (v : Value) : Prop := ∃ U oa cap b o, v = .slice oa l.length cap ∧ FrAt w l U oa cap b o
theorem FrAt.later {w w' : World} {l : List Fr} {U : Nat → Value} {oa : Option Addr} {cap b o B : Nat} (h : FrAt w l U oa cap b o) (hb : Below B w w') (hB : w.heap.size ≤ B) : FrAt w' l U oa cap b o := by
  refine ⟨h.len, h.max, fun h0 => ⟨(h.at0 h0).1, Nat.lt_of_lt_of_le (h.at0 h0).2 hb.size⟩, fun k f hk j u hu => ?_, fun k f hk => (h.ids k f hk).later hb hB⟩
  have hlt : b < w.heap.size := (h.at0 (by have := posA hk; omega)).2
  exact (hb.cell (p := ⟨b, o + k * 9 + j, none⟩) (by show b < B; omega)).trans (h.cell k f hk j u hu)
theorem FrW.later {w w' : World} {l : List Fr} {v : Value} {B : Nat} (h : FrW w l v) (hb : Below B w w') (hB : w.heap.size ≤ B) : FrW w' l v := by
  obtain ⟨U, oa, cap, b, o, e, h⟩ := h
  exact ⟨U, oa, cap, b, o, e, h.later hb hB⟩
theorem FrW.val {w : World} {l : List Fr} {v : Value} (h : FrW w l v) : ∃ oa cap, v = .slice oa l.length cap := by
  obtain ⟨_, oa, cap, _, _, e, _⟩ := h
  exact ⟨oa, cap, e⟩
theorem fc_cells {w : World} {f : Fr} {u : Value} {b o : Nat} (h : ∀ j z, (fc f u)[j]? = some z → w.cell? ⟨b, o + j, none⟩ = some z) :
    w.cell? ⟨b, o, none⟩ = some u ∧ w.cell? ⟨b, o + 1, none⟩ = some (.int .i64 (f.v 0)) ∧ w.cell? ⟨b, o + 2, none⟩ = some (.int .i64 (f.v 1)) ∧ w.cell? ⟨b, o + 3, none⟩ = some (.int .i64 (f.v 2)) ∧ w.cell? ⟨b, o + 4, none⟩ = some (.int .i64 (f.v 3)) ∧ w.cell? ⟨b, o + 5, none⟩ = some (.int .i64 (f.v 4)) ∧ w.cell? ⟨b, o + 6, none⟩ = some (.int .i64 (f.v 5)) ∧ w.cell? ⟨b, o + 7, none⟩ = some (.int .i64 (f.v 6)) ∧ w.cell? ⟨b, o + 8, none⟩ = some (.int .i64 (f.v 7)) :=
  ⟨h 0 _ rfl, h 1 _ rfl, h 2 _ rfl, h 3 _ rfl, h 4 _ rfl, h 5 _ rfl, h 6 _ rfl, h 7 _ rfl, h 8 _ rfl⟩
abbrev knV (A : Nat → Int) (v : Value) : Value := .agg #[.int .i64 (A 0), .int .i64 (A 1), .int .i64 (A 2), .int .i64 (A 3), .int .i64 (A 4), .int .i64 (A 5), .int .i64 (A 6), .int .i64 (A 7), v]
abbrev knA (A : Nat → Int) (v : Value) : Array Value := #[.int .i64 (A 0), .int .i64 (A 1), .int .i64 (A 2), .int .i64 (A 3), .int .i64 (A 4), .int .i64 (A 5), .int .i64 (A 6), .int .i64 (A 7), v]
/-! ### Texts that the call owns -/
def txC (l : List ByteArray) : List Value := l.map .string
def OwnT (w : World) (base : Nat) (l : List ByteArray) (v : Value) : Prop := w.ownsRow base 9 1 v l.length (txC l)
theorem OwnT.nil (w : World) (base : Nat) : OwnT w base [] (.slice none 0 0) := World.ownsRow_nil _ _ _ _
theorem OwnT.later {w w' : World} {base : Nat} {l : List ByteArray} {v : Value} (h : OwnT w base l v) (hb : Below w.heap.size w w') : OwnT w' base l v := ownsRow_below h hb
theorem OwnT.alloc {w : World} {base : Nat} {l : List ByteArray} {v : Value} (h : OwnT w base l v) (o : Obj) : OwnT (w.alloc o) base l v := h.later ((Below.refl _ _).alloc (Nat.le_refl _) _)
theorem OwnT.mono {w : World} {base base' : Nat} {l : List ByteArray} {v : Value} (h : OwnT w base l v) (hb : base' ≤ base) : OwnT w base' l v := by
  obtain ⟨h1, h2⟩ := h
  refine ⟨h1, ?_⟩
  rcases h2 with h2 | ⟨g, cap, cur, hv, hg, r⟩
  · exact .inl h2
  · exact .inr ⟨g, cap, cur, hv, Nat.le_trans hb hg, r⟩
theorem OwnT.val {w : World} {base : Nat} {l : List ByteArray} {v : Value} (h : OwnT w base l v) : ∃ oa cap, v = .slice oa l.length cap := by
  obtain ⟨oa, cap, g, e, _⟩ := row_slice h
  exact ⟨oa, cap, e⟩
theorem OwnT.tx {w : World} {base : Nat} {l : List ByteArray} {v : Value} (h : OwnT w base l v) (hok : ∀ s ∈ l, s.size ≤ maxLen) : TxW w l v := by
  obtain ⟨oa, cap, g, e, h1, h2, hg⟩ := row_slice h
  subst e
  refine ⟨oa, cap, g, 0, rfl, h1, h2, fun h0 => ⟨(hg h0).1, (hg h0).2.2⟩, fun k s hk => ?_, hok⟩
  have hlt := posA hk
  obtain ⟨rfl, _⟩ := hg (by omega)
  unfold OwnT at h
  rw [Nat.zero_add, h.cellAt k (by omega)]
  simp [txC, hk]
theorem newsT {w : World} {s : ByteArray} {t : TypeId} : ∀ j u, ([.string s] : List Value)[j]? = some u → (w.alloc (.cells #[.string s] t)).cell? ((⟨w.heap.size, 0, none⟩ : Addr).add j) = some u :=
  World.news_of_block (cs := #[.string s]) (t := t) (fr := (0, 0)) (heap_alloc_new w _)
theorem oneT (s : ByteArray) : ∀ u ∈ ([.string s] : List Value), u.oneCell' = true := by
  intro u hu; simp at hu; subst hu; rfl
theorem OwnT.push {w : World} {base n g cap : Nat} {l : List ByteArray} {s : ByteArray} (h : w.ownsRow base 9 1 (.slice (some ⟨g, 0, none⟩) n cap) n (txC l ++ [.string s])) (hn : n = l.length + 1) : OwnT w base (l ++ [s]) (.slice (some ⟨g, 0, none⟩) n cap) := by
  unfold OwnT
  rw [List.length_append, txC, List.map_append]
  subst hn
  exact h
theorem below_pushT {w0 w w' : World} {B base : Nat} {l : List ByteArray} {v : Value} (h : OwnT w base l v) (hb : Below B w0 w) (hB : B ≤ base) (hg : w.grownBy w' v.ownBlock) (hsz : B ≤ w.heap.size) : Below B w0 w' :=
  hb.grown hg hsz fun k hk => by have := (World.ownsRow.lt h k hk).1; omega
theorem info_text : (Tryz.prog.info? 9).map (fun i => (i.zero, i.size, i.bytes)) = some (some (.string ⟨#[]⟩), 1, 16) := by kernel_rfl
theorem info_frag : (Tryz.prog.info? 115).map (fun i => (i.zero, i.size, i.bytes)) = some (some (.agg #[.slice none 0 0, .int .i64 0, .int .i64 0, .int .i64 0, .int .i64 0, .int .i64 0, .int .i64 0, .int .i64 0, .int .i64 0]), 9, 88) := by kernel_rfl
theorem takeT {α : Type} {l : List α} {k : Nat} {i : α} (h : l[k]? = some i) : l.take (k + 1) = l.take k ++ [i] := by
  obtain ⟨hk, e⟩ := List.getElem?_eq_some_iff.1 h
  rw [List.take_succ_eq_append_getElem hk, e]
end Go.Proofs.YtjkcooakddlppaaGreat
