/- 'VecJoins' returns true, whatever it is given: the walk. -/
import Derived.Test.YtphomlolfadbpaaVecUp
import Derived.Deep.DeepCutAuto
import Derived.Deep.CutBlock
namespace Go.Proofs.Ytphomlolfadbpaa
open Go.RowKit

set_option maxRecDepth 100000 in
set_option maxHeartbeats 8000000 in
theorem vecJoins_calls (A B C : Nat → Int) (r c : Int) (w : World) :
    Calls Try.prog 4 #[vecV A, vecV B, vecV C, .agg #[.int .i64 r, .int .i64 c]] w fun e w' => e = .returned (.bool true) ∧ Below w.heap.size w w' := by
  have U := fun w => Lib.hid (up6_calls w)
  have OX := Lib.hid ((((Own.newAt w (arr8 A) 23 (b := w.heap.size) (by simp)).alloc (.cells (arr8 B) 23)).alloc (.cells (arr8 C) 23)).alloc (.cells #[.int .i64 r, .int .i64 c] 25))
  have OY := Lib.hid (((Own.newAt (w.alloc (.cells (arr8 A) 23)) (arr8 B) 23 (b := w.heap.size + 1) (by simp)).alloc (.cells (arr8 C) 23)).alloc (.cells #[.int .i64 r, .int .i64 c] 25))
  have OZ := Lib.hid ((Own.newAt ((w.alloc (.cells (arr8 A) 23)).alloc (.cells (arr8 B) 23)) (arr8 C) 23 (b := w.heap.size + 1 + 1) (by simp)).alloc (.cells #[.int .i64 r, .int .i64 c] 25))
  have OV := Lib.hid (Own.newAt (((w.alloc (.cells (arr8 A) 23)).alloc (.cells (arr8 B) 23)).alloc (.cells (arr8 C) 23)) #[.int .i64 r, .int .i64 c] 25 (b := w.heap.size + 1 + 1 + 1) (by simp))
  have BEL := Lib.hid (((((Below.refl w.heap.size w).alloc (by omega) (.cells (arr8 A) 23)).alloc (by simp; try omega) (.cells (arr8 B) 23)).alloc (by simp; try omega) (.cells (arr8 C) 23)).alloc (by simp; try omega) (.cells #[.int .i64 r, .int .i64 c] 25))
  go_enter Try.func4, Try.ntmps4
  go_wp2_with fail
  refine (U _).out.mono ?_; rintro e w1 ⟨rfl, hb⟩
  replace OX := Lib.hid (OX.out.later hb)
  replace OY := Lib.hid (OY.out.later hb)
  replace OZ := Lib.hid (OZ.out.later hb)
  replace OV := Lib.hid (OV.out.later hb)
  replace BEL := Lib.hid (BEL.out.trans (hb.mono BEL.out.size))
  clear hb
  clear U
  have hsw : vecV (maxV B A) = vecV (maxV A B) := vec_congr fun k _ => max_comm8 B A k
  have hww : vecV (withV (withV A r c) r c) = vecV (withV A r c) := vec_congr fun k _ => with_with A r c k
  have MB := fun w => Lib.hid (vecMax_calls B A w)
  rw [hsw] at MB
  clear hsw
  have WW := fun w => Lib.hid (vecWith_calls (withV A r c) r c w)
  rw [hww] at WW
  clear hww
  have HM := fun w => Lib.hid (vecHas_calls (maxV A B) r c w)
  rw [has_max] at HM
  have HA := fun w => Lib.hid (vecHas_calls A r c w)
  have HB := fun w => Lib.hid (vecHas_calls B r c w)
  have I1 := fun w => Lib.hid (vecIn_calls A (maxV A B) w)
  rw [in_max_l] at I1
  have I2 := fun w => Lib.hid (vecIn_calls B (maxV A B) w)
  rw [in_max_r] at I2
  have I3 := fun w => Lib.hid (vecIn_calls A C w)
  have I4 := fun w => Lib.hid (vecIn_calls B C w)
  have I5 := fun w => Lib.hid (vecIn_calls (maxV A B) C w)
  have I6 := fun w => Lib.hid (vecIn_calls A B w)
  have K1 := Lib.hid (fun h h' => in_least (A := A) (B := B) (C := C) h h')
  have K2 := Lib.hid (fun h h' => in_has (A := A) (B := B) (r := r) (c := c) h h')
  have HW := fun w => Lib.hid (vecHas_calls (withV A r c) r c w)
  rw [with_has] at HW
  have I7 := fun w => Lib.hid (vecIn_calls A (withV A r c) w)
  rw [in_with] at I7
  have MA := fun w => Lib.hid (vecMax_calls A B w)
  have WA := fun w => Lib.hid (vecWith_calls A r c w)
  generalize maxV A B = M at *
  generalize withV A r c = W at *
  generalize hasV A r c = ha at *
  generalize hasV B r c = hb9 at *
  generalize inV A C = iac at *
  generalize inV B C = ibc at *
  generalize inV M C = imc at *
  generalize inV A B = iab at *
  have lOX := OX.out.cell
  have zOX := OX.out.lt
  have lOY := OY.out.cell
  have zOY := OY.out.lt
  have lOZ := OZ.out.cell
  have zOZ := OZ.out.lt
  have lOV := OV.out.cell
  have zOV := OV.out.lt
  go_wp2_with fail
  refine (MA _).out.mono ?_; rintro e w2 ⟨rfl, hb⟩
  clear lOX zOX lOY zOY lOZ zOZ lOV zOV
  replace OX := Lib.hid (OX.out.later hb)
  replace OY := Lib.hid (OY.out.later hb)
  replace OZ := Lib.hid (OZ.out.later hb)
  replace OV := Lib.hid (OV.out.later hb)
  replace BEL := Lib.hid (BEL.out.trans (hb.mono BEL.out.size))
  clear hb
  go_wp2_with fail
  replace OX := Lib.hid (OX.out.alloc (.cells (arr8 M) 23))
  replace OY := Lib.hid (OY.out.alloc (.cells (arr8 M) 23))
  replace OZ := Lib.hid (OZ.out.alloc (.cells (arr8 M) 23))
  replace OV := Lib.hid (OV.out.alloc (.cells (arr8 M) 23))
  have OM := Lib.hid (Own.new w2 (arr8 M) 23)
  replace BEL := Lib.hid (BEL.out.alloc BEL.out.size (.cells (arr8 M) 23))
  generalize w2.heap.size = BM at *
  generalize w2.alloc (.cells (arr8 M) 23) = w3 at *
  have LOX := fun dd os o => OX.out.has.regrown dd os o
  have LOY := fun dd os o => OY.out.has.regrown dd os o
  have LOZ := fun dd os o => OZ.out.has.regrown dd os o
  have LOV := fun dd os o => OV.out.has.regrown dd os o
  have LOM := fun dd os o => OM.out.has.regrown dd os o
  have m1 := fun dd os => Lib.hid (Calls.regrown_of ((HM (Sort.grow (redrawn w3 dd) os)).out))
  have m2 := fun dd os => Lib.hid (Calls.regrown_of ((HA (Sort.grow (redrawn w3 dd) os)).out))
  have m3 := fun dd os => Lib.hid (Calls.regrown_of ((HB (Sort.grow (redrawn w3 dd) os)).out))
  have m4 := fun dd os => Lib.hid (Calls.regrown_of ((MB (Sort.grow (redrawn w3 dd) os)).out))
  have m5 := fun dd os => Lib.hid (Calls.regrown_of ((I1 (Sort.grow (redrawn w3 dd) os)).out))
  have m6 := fun dd os => Lib.hid (Calls.regrown_of ((I2 (Sort.grow (redrawn w3 dd) os)).out))
  have hways : (ha = true ∧ hb9 = true) ∨ (ha = true ∧ hb9 = false) ∨ (ha = false ∧ hb9 = true) ∨ (ha = false ∧ hb9 = false) := by cases ha <;> cases hb9 <;> simp
  go_cut [47] (fun s wx => s = .bool false ∧ Hid (Below w.heap.size w wx ∧ Own wx w.heap.size (arr8 A) 23 ∧ Own wx (w.heap.size + 1) (arr8 B) 23 ∧ Own wx (w.heap.size + 1 + 1) (arr8 C) 23 ∧ Own wx (w.heap.size + 1 + 1 + 1) #[.int .i64 r, .int .i64 c] 25 ∧ Own wx BM (arr8 M) 23))
  case first =>
    rcases hways with ⟨rfl, rfl⟩ | ⟨rfl, rfl⟩ | ⟨rfl, rfl⟩ | ⟨rfl, rfl⟩
    all_goals
      simp only [Bool.or_true, Bool.or_false, Bool.true_or, Bool.false_or] at m1
      refine wp_region_quiet_below (by kernel_rfl) (by kernel_rfl) ?_
      repeat (first | go_big_quiet_step ((first | (with_reducible exact (m1 _ _).out) | (with_reducible exact (m2 _ _).out) | (with_reducible exact (m3 _ _).out) | (with_reducible exact (m4 _ _).out) | (with_reducible exact (m5 _ _).out) | (with_reducible exact (m6 _ _).out))) | quiet_step (first | (with_reducible exact (m1 _ _).out) | (with_reducible exact (m2 _ _).out) | (with_reducible exact (m3 _ _).out) | (with_reducible exact (m4 _ _).out) | (with_reducible exact (m5 _ _).out) | (with_reducible exact (m6 _ _).out)))
      refine wpQuiet_nil ?_
      intro w4 hw'
      have hb := regrown_below hw'
      clear hw' m1 m2 m3 m4 m5 m6
      clear LOX LOY LOZ LOV LOM
      replace OX := Lib.hid (OX.out.later hb)
      replace OY := Lib.hid (OY.out.later hb)
      replace OZ := Lib.hid (OZ.out.later hb)
      replace OV := Lib.hid (OV.out.later hb)
      replace OM := Lib.hid (OM.out.later hb)
      replace BEL := Lib.hid (BEL.out.trans (hb.mono BEL.out.size))
      clear hb
      go_wp2_with fail
      go_meet
      exact ⟨rfl, BEL.out, OX.out, OY.out, OZ.out, OV.out, OM.out⟩
  case rest =>
    clear m1 m2 m3 m4 m5 m6 hways LOX LOY LOZ LOV LOM
    obtain ⟨rfl, hh⟩ := hcut
    clear OX OY OZ OV OM BEL
    obtain ⟨hB, h0, h1, h2, h3, h4⟩ := Hid.out hh
    have BEL := Lib.hid hB
    have OX := Lib.hid h0
    have OY := Lib.hid h1
    have OZ := Lib.hid h2
    have OV := Lib.hid h3
    have OM := Lib.hid h4
    clear hB hh h0 h1 h2 h3 h4
    generalize wc = w5 at *
    go_upto_region 5 with fail
    go_cut [77] (fun s wx => s = .bool false ∧ Hid (Below w.heap.size w wx ∧ Own wx w.heap.size (arr8 A) 23 ∧ Own wx (w.heap.size + 1) (arr8 B) 23 ∧ Own wx (w.heap.size + 1 + 1) (arr8 C) 23 ∧ Own wx (w.heap.size + 1 + 1 + 1) #[.int .i64 r, .int .i64 c] 25 ∧ Own wx BM (arr8 M) 23))
    case first =>
      have lOX := OX.out.cell
      have zOX := OX.out.lt
      have lOY := OY.out.cell
      have zOY := OY.out.lt
      have lOZ := OZ.out.cell
      have zOZ := OZ.out.lt
      have lOV := OV.out.cell
      have zOV := OV.out.lt
      have lOM := OM.out.cell
      have zOM := OM.out.lt
      go_wp2_with fail
      refine (I3 _).out.mono ?_; rintro e wa ⟨rfl, hb⟩
      clear lOX zOX lOY zOY lOZ zOZ lOV zOV lOM zOM
      replace OX := Lib.hid (OX.out.later hb)
      replace OY := Lib.hid (OY.out.later hb)
      replace OZ := Lib.hid (OZ.out.later hb)
      replace OV := Lib.hid (OV.out.later hb)
      replace OM := Lib.hid (OM.out.later hb)
      replace BEL := Lib.hid (BEL.out.trans (hb.mono BEL.out.size))
      clear hb
      cases iac
      case false =>
        have lOX := OX.out.cell
        have zOX := OX.out.lt
        have lOY := OY.out.cell
        have zOY := OY.out.lt
        have lOZ := OZ.out.cell
        have zOZ := OZ.out.lt
        have lOV := OV.out.cell
        have zOV := OV.out.lt
        have lOM := OM.out.cell
        have zOM := OM.out.lt
        go_wp2_with fail
        refine (I6 _).out.mono ?_; rintro e wd ⟨rfl, hb⟩
        clear lOX zOX lOY zOY lOZ zOZ lOV zOV lOM zOM
        replace OX := Lib.hid (OX.out.later hb)
        replace OY := Lib.hid (OY.out.later hb)
        replace OZ := Lib.hid (OZ.out.later hb)
        replace OV := Lib.hid (OV.out.later hb)
        replace OM := Lib.hid (OM.out.later hb)
        replace BEL := Lib.hid (BEL.out.trans (hb.mono BEL.out.size))
        clear hb
        cases iab
        case false =>
          go_wp2_with fail
          go_meet
          exact ⟨rfl, BEL.out, OX.out, OY.out, OZ.out, OV.out, OM.out⟩
        have lOX := OX.out.cell
        have zOX := OX.out.lt
        have lOY := OY.out.cell
        have zOY := OY.out.lt
        have lOZ := OZ.out.cell
        have zOZ := OZ.out.lt
        have lOV := OV.out.cell
        have zOV := OV.out.lt
        have lOM := OM.out.cell
        have zOM := OM.out.lt
        go_wp2_with fail
        refine (HA _).out.mono ?_; rintro e we ⟨rfl, hb⟩
        clear lOX zOX lOY zOY lOZ zOZ lOV zOV lOM zOM
        replace OX := Lib.hid (OX.out.later hb)
        replace OY := Lib.hid (OY.out.later hb)
        replace OZ := Lib.hid (OZ.out.later hb)
        replace OV := Lib.hid (OV.out.later hb)
        replace OM := Lib.hid (OM.out.later hb)
        replace BEL := Lib.hid (BEL.out.trans (hb.mono BEL.out.size))
        clear hb
        cases ha
        case false =>
          go_wp2_with fail
          go_meet
          exact ⟨rfl, BEL.out, OX.out, OY.out, OZ.out, OV.out, OM.out⟩
        obtain rfl : hb9 = true := K2.out (by trivial) (by trivial)
        have lOX := OX.out.cell
        have zOX := OX.out.lt
        have lOY := OY.out.cell
        have zOY := OY.out.lt
        have lOZ := OZ.out.cell
        have zOZ := OZ.out.lt
        have lOV := OV.out.cell
        have zOV := OV.out.lt
        have lOM := OM.out.cell
        have zOM := OM.out.lt
        go_wp2_with fail
        refine (HB _).out.mono ?_; rintro e wf ⟨rfl, hb⟩
        clear lOX zOX lOY zOY lOZ zOZ lOV zOV lOM zOM
        replace OX := Lib.hid (OX.out.later hb)
        replace OY := Lib.hid (OY.out.later hb)
        replace OZ := Lib.hid (OZ.out.later hb)
        replace OV := Lib.hid (OV.out.later hb)
        replace OM := Lib.hid (OM.out.later hb)
        replace BEL := Lib.hid (BEL.out.trans (hb.mono BEL.out.size))
        clear hb
        go_wp2_with fail
        go_meet
        exact ⟨rfl, BEL.out, OX.out, OY.out, OZ.out, OV.out, OM.out⟩
      have lOX := OX.out.cell
      have zOX := OX.out.lt
      have lOY := OY.out.cell
      have zOY := OY.out.lt
      have lOZ := OZ.out.cell
      have zOZ := OZ.out.lt
      have lOV := OV.out.cell
      have zOV := OV.out.lt
      have lOM := OM.out.cell
      have zOM := OM.out.lt
      go_wp2_with fail
      refine (I4 _).out.mono ?_; rintro e wb ⟨rfl, hb⟩
      clear lOX zOX lOY zOY lOZ zOZ lOV zOV lOM zOM
      replace OX := Lib.hid (OX.out.later hb)
      replace OY := Lib.hid (OY.out.later hb)
      replace OZ := Lib.hid (OZ.out.later hb)
      replace OV := Lib.hid (OV.out.later hb)
      replace OM := Lib.hid (OM.out.later hb)
      replace BEL := Lib.hid (BEL.out.trans (hb.mono BEL.out.size))
      clear hb
      cases ibc
      case false =>
        have lOX := OX.out.cell
        have zOX := OX.out.lt
        have lOY := OY.out.cell
        have zOY := OY.out.lt
        have lOZ := OZ.out.cell
        have zOZ := OZ.out.lt
        have lOV := OV.out.cell
        have zOV := OV.out.lt
        have lOM := OM.out.cell
        have zOM := OM.out.lt
        go_wp2_with fail
        refine (I6 _).out.mono ?_; rintro e wd ⟨rfl, hb⟩
        clear lOX zOX lOY zOY lOZ zOZ lOV zOV lOM zOM
        replace OX := Lib.hid (OX.out.later hb)
        replace OY := Lib.hid (OY.out.later hb)
        replace OZ := Lib.hid (OZ.out.later hb)
        replace OV := Lib.hid (OV.out.later hb)
        replace OM := Lib.hid (OM.out.later hb)
        replace BEL := Lib.hid (BEL.out.trans (hb.mono BEL.out.size))
        clear hb
        cases iab
        case false =>
          go_wp2_with fail
          go_meet
          exact ⟨rfl, BEL.out, OX.out, OY.out, OZ.out, OV.out, OM.out⟩
        have lOX := OX.out.cell
        have zOX := OX.out.lt
        have lOY := OY.out.cell
        have zOY := OY.out.lt
        have lOZ := OZ.out.cell
        have zOZ := OZ.out.lt
        have lOV := OV.out.cell
        have zOV := OV.out.lt
        have lOM := OM.out.cell
        have zOM := OM.out.lt
        go_wp2_with fail
        refine (HA _).out.mono ?_; rintro e we ⟨rfl, hb⟩
        clear lOX zOX lOY zOY lOZ zOZ lOV zOV lOM zOM
        replace OX := Lib.hid (OX.out.later hb)
        replace OY := Lib.hid (OY.out.later hb)
        replace OZ := Lib.hid (OZ.out.later hb)
        replace OV := Lib.hid (OV.out.later hb)
        replace OM := Lib.hid (OM.out.later hb)
        replace BEL := Lib.hid (BEL.out.trans (hb.mono BEL.out.size))
        clear hb
        cases ha
        case false =>
          go_wp2_with fail
          go_meet
          exact ⟨rfl, BEL.out, OX.out, OY.out, OZ.out, OV.out, OM.out⟩
        obtain rfl : hb9 = true := K2.out (by trivial) (by trivial)
        have lOX := OX.out.cell
        have zOX := OX.out.lt
        have lOY := OY.out.cell
        have zOY := OY.out.lt
        have lOZ := OZ.out.cell
        have zOZ := OZ.out.lt
        have lOV := OV.out.cell
        have zOV := OV.out.lt
        have lOM := OM.out.cell
        have zOM := OM.out.lt
        go_wp2_with fail
        refine (HB _).out.mono ?_; rintro e wf ⟨rfl, hb⟩
        clear lOX zOX lOY zOY lOZ zOZ lOV zOV lOM zOM
        replace OX := Lib.hid (OX.out.later hb)
        replace OY := Lib.hid (OY.out.later hb)
        replace OZ := Lib.hid (OZ.out.later hb)
        replace OV := Lib.hid (OV.out.later hb)
        replace OM := Lib.hid (OM.out.later hb)
        replace BEL := Lib.hid (BEL.out.trans (hb.mono BEL.out.size))
        clear hb
        go_wp2_with fail
        go_meet
        exact ⟨rfl, BEL.out, OX.out, OY.out, OZ.out, OV.out, OM.out⟩
      obtain rfl : imc = true := K1.out (by trivial) (by trivial)
      have lOX := OX.out.cell
      have zOX := OX.out.lt
      have lOY := OY.out.cell
      have zOY := OY.out.lt
      have lOZ := OZ.out.cell
      have zOZ := OZ.out.lt
      have lOV := OV.out.cell
      have zOV := OV.out.lt
      have lOM := OM.out.cell
      have zOM := OM.out.lt
      go_wp2_with fail
      refine (I5 _).out.mono ?_; rintro e wc2 ⟨rfl, hb⟩
      clear lOX zOX lOY zOY lOZ zOZ lOV zOV lOM zOM
      replace OX := Lib.hid (OX.out.later hb)
      replace OY := Lib.hid (OY.out.later hb)
      replace OZ := Lib.hid (OZ.out.later hb)
      replace OV := Lib.hid (OV.out.later hb)
      replace OM := Lib.hid (OM.out.later hb)
      replace BEL := Lib.hid (BEL.out.trans (hb.mono BEL.out.size))
      clear hb
      have lOX := OX.out.cell
      have zOX := OX.out.lt
      have lOY := OY.out.cell
      have zOY := OY.out.lt
      have lOZ := OZ.out.cell
      have zOZ := OZ.out.lt
      have lOV := OV.out.cell
      have zOV := OV.out.lt
      have lOM := OM.out.cell
      have zOM := OM.out.lt
      go_wp2_with fail
      refine (I6 _).out.mono ?_; rintro e wd ⟨rfl, hb⟩
      clear lOX zOX lOY zOY lOZ zOZ lOV zOV lOM zOM
      replace OX := Lib.hid (OX.out.later hb)
      replace OY := Lib.hid (OY.out.later hb)
      replace OZ := Lib.hid (OZ.out.later hb)
      replace OV := Lib.hid (OV.out.later hb)
      replace OM := Lib.hid (OM.out.later hb)
      replace BEL := Lib.hid (BEL.out.trans (hb.mono BEL.out.size))
      clear hb
      cases iab
      case false =>
        go_wp2_with fail
        go_meet
        exact ⟨rfl, BEL.out, OX.out, OY.out, OZ.out, OV.out, OM.out⟩
      have lOX := OX.out.cell
      have zOX := OX.out.lt
      have lOY := OY.out.cell
      have zOY := OY.out.lt
      have lOZ := OZ.out.cell
      have zOZ := OZ.out.lt
      have lOV := OV.out.cell
      have zOV := OV.out.lt
      have lOM := OM.out.cell
      have zOM := OM.out.lt
      go_wp2_with fail
      refine (HA _).out.mono ?_; rintro e we ⟨rfl, hb⟩
      clear lOX zOX lOY zOY lOZ zOZ lOV zOV lOM zOM
      replace OX := Lib.hid (OX.out.later hb)
      replace OY := Lib.hid (OY.out.later hb)
      replace OZ := Lib.hid (OZ.out.later hb)
      replace OV := Lib.hid (OV.out.later hb)
      replace OM := Lib.hid (OM.out.later hb)
      replace BEL := Lib.hid (BEL.out.trans (hb.mono BEL.out.size))
      clear hb
      cases ha
      case false =>
        go_wp2_with fail
        go_meet
        exact ⟨rfl, BEL.out, OX.out, OY.out, OZ.out, OV.out, OM.out⟩
      obtain rfl : hb9 = true := K2.out (by trivial) (by trivial)
      have lOX := OX.out.cell
      have zOX := OX.out.lt
      have lOY := OY.out.cell
      have zOY := OY.out.lt
      have lOZ := OZ.out.cell
      have zOZ := OZ.out.lt
      have lOV := OV.out.cell
      have zOV := OV.out.lt
      have lOM := OM.out.cell
      have zOM := OM.out.lt
      go_wp2_with fail
      refine (HB _).out.mono ?_; rintro e wf ⟨rfl, hb⟩
      clear lOX zOX lOY zOY lOZ zOZ lOV zOV lOM zOM
      replace OX := Lib.hid (OX.out.later hb)
      replace OY := Lib.hid (OY.out.later hb)
      replace OZ := Lib.hid (OZ.out.later hb)
      replace OV := Lib.hid (OV.out.later hb)
      replace OM := Lib.hid (OM.out.later hb)
      replace BEL := Lib.hid (BEL.out.trans (hb.mono BEL.out.size))
      clear hb
      go_wp2_with fail
      go_meet
      exact ⟨rfl, BEL.out, OX.out, OY.out, OZ.out, OV.out, OM.out⟩
    case rest =>
      obtain ⟨rfl, hh⟩ := hcut
      clear OX OY OZ OV OM BEL
      obtain ⟨hB, h0, h1, h2, h3, h4⟩ := Hid.out hh
      have BEL := Lib.hid hB
      have OX := Lib.hid h0
      have OY := Lib.hid h1
      have OZ := Lib.hid h2
      have OV := Lib.hid h3
      have OM := Lib.hid h4
      clear hB hh h0 h1 h2 h3 h4
      generalize wc = w6 at *
      have lOX := OX.out.cell
      have zOX := OX.out.lt
      have lOY := OY.out.cell
      have zOY := OY.out.lt
      have lOZ := OZ.out.cell
      have zOZ := OZ.out.lt
      have lOV := OV.out.cell
      have zOV := OV.out.lt
      have lOM := OM.out.cell
      have zOM := OM.out.lt
      go_wp2_with fail
      refine (WA _).out.mono ?_; rintro e w7 ⟨rfl, hb⟩
      clear lOX zOX lOY zOY lOZ zOZ lOV zOV lOM zOM
      replace OX := Lib.hid (OX.out.later hb)
      replace OY := Lib.hid (OY.out.later hb)
      replace OZ := Lib.hid (OZ.out.later hb)
      replace OV := Lib.hid (OV.out.later hb)
      replace OM := Lib.hid (OM.out.later hb)
      replace BEL := Lib.hid (BEL.out.trans (hb.mono BEL.out.size))
      clear hb
      by_cases h1 : r < 1
      case pos =>
        have g1 : decide (1 ≤ r) = false := decide_eq_false (by omega)
        simp only [g1, Bool.false_and, Bool.true_and, Bool.and_false, Bool.and_self] at HW
        have lOV := OV.out.cell
        have zOV := OV.out.lt
        go_wp2_with fail
        clear lOV zOV
        replace OX := Lib.hid (OX.out.alloc (.cells (arr8 W) 23))
        replace OY := Lib.hid (OY.out.alloc (.cells (arr8 W) 23))
        replace OZ := Lib.hid (OZ.out.alloc (.cells (arr8 W) 23))
        replace OV := Lib.hid (OV.out.alloc (.cells (arr8 W) 23))
        replace OM := Lib.hid (OM.out.alloc (.cells (arr8 W) 23))
        have OW := Lib.hid (Own.new w7 (arr8 W) 23)
        replace BEL := Lib.hid (BEL.out.alloc BEL.out.size (.cells (arr8 W) 23))
        generalize w7.heap.size = BW at *
        generalize w7.alloc (.cells (arr8 W) 23) = w8 at *
        have LOX := fun dd os o => OX.out.has.regrown dd os o
        have LOY := fun dd os o => OY.out.has.regrown dd os o
        have LOZ := fun dd os o => OZ.out.has.regrown dd os o
        have LOV := fun dd os o => OV.out.has.regrown dd os o
        have LOM := fun dd os o => OM.out.has.regrown dd os o
        have LOW := fun dd os o => OW.out.has.regrown dd os o
        have m1 := fun dd os => Lib.hid (Calls.regrown_of ((HW (Sort.grow (redrawn w8 dd) os)).out))
        have m2 := fun dd os => Lib.hid (Calls.regrown_of ((I7 (Sort.grow (redrawn w8 dd) os)).out))
        have m3 := fun dd os => Lib.hid (Calls.regrown_of ((WW (Sort.grow (redrawn w8 dd) os)).out))
        refine wp_region_quiet_below (by kernel_rfl) (by kernel_rfl) ?_
        repeat (first | go_big_quiet_step ((first | (with_reducible exact (m1 _ _).out) | (with_reducible exact (m2 _ _).out) | (with_reducible exact (m3 _ _).out))) | quiet_step (first | (with_reducible exact (m1 _ _).out) | (with_reducible exact (m2 _ _).out) | (with_reducible exact (m3 _ _).out)))
        refine wpQuiet_nil ?_
        intro w9 hw'
        have hb := regrown_below hw'
        clear hw' m1 m2 m3
        clear LOX LOY LOZ LOV LOM LOW
        replace BEL := Lib.hid (BEL.out.trans (hb.mono BEL.out.size))
        clear hb
        go_wp2_with fail
        go_ret
        exact ⟨rfl, BEL.out⟩
      by_cases h2 : 8 < r
      case pos =>
        have g1 : decide (1 ≤ r) = true := decide_eq_true (by omega)
        have g2 : decide (r ≤ 8) = false := decide_eq_false (by omega)
        simp only [g1, g2, Bool.false_and, Bool.true_and, Bool.and_false, Bool.and_self] at HW
        have lOV := OV.out.cell
        have zOV := OV.out.lt
        go_wp2_with fail
        clear lOV zOV
        replace OX := Lib.hid (OX.out.alloc (.cells (arr8 W) 23))
        replace OY := Lib.hid (OY.out.alloc (.cells (arr8 W) 23))
        replace OZ := Lib.hid (OZ.out.alloc (.cells (arr8 W) 23))
        replace OV := Lib.hid (OV.out.alloc (.cells (arr8 W) 23))
        replace OM := Lib.hid (OM.out.alloc (.cells (arr8 W) 23))
        have OW := Lib.hid (Own.new w7 (arr8 W) 23)
        replace BEL := Lib.hid (BEL.out.alloc BEL.out.size (.cells (arr8 W) 23))
        generalize w7.heap.size = BW at *
        generalize w7.alloc (.cells (arr8 W) 23) = w8 at *
        have LOX := fun dd os o => OX.out.has.regrown dd os o
        have LOY := fun dd os o => OY.out.has.regrown dd os o
        have LOZ := fun dd os o => OZ.out.has.regrown dd os o
        have LOV := fun dd os o => OV.out.has.regrown dd os o
        have LOM := fun dd os o => OM.out.has.regrown dd os o
        have LOW := fun dd os o => OW.out.has.regrown dd os o
        have m1 := fun dd os => Lib.hid (Calls.regrown_of ((HW (Sort.grow (redrawn w8 dd) os)).out))
        have m2 := fun dd os => Lib.hid (Calls.regrown_of ((I7 (Sort.grow (redrawn w8 dd) os)).out))
        have m3 := fun dd os => Lib.hid (Calls.regrown_of ((WW (Sort.grow (redrawn w8 dd) os)).out))
        refine wp_region_quiet_below (by kernel_rfl) (by kernel_rfl) ?_
        repeat (first | go_big_quiet_step ((first | (with_reducible exact (m1 _ _).out) | (with_reducible exact (m2 _ _).out) | (with_reducible exact (m3 _ _).out))) | quiet_step (first | (with_reducible exact (m1 _ _).out) | (with_reducible exact (m2 _ _).out) | (with_reducible exact (m3 _ _).out)))
        refine wpQuiet_nil ?_
        intro w9 hw'
        have hb := regrown_below hw'
        clear hw' m1 m2 m3
        clear LOX LOY LOZ LOV LOM LOW
        replace BEL := Lib.hid (BEL.out.trans (hb.mono BEL.out.size))
        clear hb
        go_wp2_with fail
        go_ret
        exact ⟨rfl, BEL.out⟩
      by_cases h3 : c < 1
      case pos =>
        have g1 : decide (1 ≤ r) = true := decide_eq_true (by omega)
        have g2 : decide (r ≤ 8) = true := decide_eq_true (by omega)
        have g3 : decide (1 ≤ c) = false := decide_eq_false (by omega)
        simp only [g1, g2, g3, Bool.false_and, Bool.true_and, Bool.and_false, Bool.and_self] at HW
        have lOV := OV.out.cell
        have zOV := OV.out.lt
        go_wp2_with fail
        clear lOV zOV
        replace OX := Lib.hid (OX.out.alloc (.cells (arr8 W) 23))
        replace OY := Lib.hid (OY.out.alloc (.cells (arr8 W) 23))
        replace OZ := Lib.hid (OZ.out.alloc (.cells (arr8 W) 23))
        replace OV := Lib.hid (OV.out.alloc (.cells (arr8 W) 23))
        replace OM := Lib.hid (OM.out.alloc (.cells (arr8 W) 23))
        have OW := Lib.hid (Own.new w7 (arr8 W) 23)
        replace BEL := Lib.hid (BEL.out.alloc BEL.out.size (.cells (arr8 W) 23))
        generalize w7.heap.size = BW at *
        generalize w7.alloc (.cells (arr8 W) 23) = w8 at *
        have LOX := fun dd os o => OX.out.has.regrown dd os o
        have LOY := fun dd os o => OY.out.has.regrown dd os o
        have LOZ := fun dd os o => OZ.out.has.regrown dd os o
        have LOV := fun dd os o => OV.out.has.regrown dd os o
        have LOM := fun dd os o => OM.out.has.regrown dd os o
        have LOW := fun dd os o => OW.out.has.regrown dd os o
        have m1 := fun dd os => Lib.hid (Calls.regrown_of ((HW (Sort.grow (redrawn w8 dd) os)).out))
        have m2 := fun dd os => Lib.hid (Calls.regrown_of ((I7 (Sort.grow (redrawn w8 dd) os)).out))
        have m3 := fun dd os => Lib.hid (Calls.regrown_of ((WW (Sort.grow (redrawn w8 dd) os)).out))
        refine wp_region_quiet_below (by kernel_rfl) (by kernel_rfl) ?_
        repeat (first | go_big_quiet_step ((first | (with_reducible exact (m1 _ _).out) | (with_reducible exact (m2 _ _).out) | (with_reducible exact (m3 _ _).out))) | quiet_step (first | (with_reducible exact (m1 _ _).out) | (with_reducible exact (m2 _ _).out) | (with_reducible exact (m3 _ _).out)))
        refine wpQuiet_nil ?_
        intro w9 hw'
        have hb := regrown_below hw'
        clear hw' m1 m2 m3
        clear LOX LOY LOZ LOV LOM LOW
        replace BEL := Lib.hid (BEL.out.trans (hb.mono BEL.out.size))
        clear hb
        go_wp2_with fail
        go_ret
        exact ⟨rfl, BEL.out⟩
      have g1 : decide (1 ≤ r) = true := decide_eq_true (by omega)
      have g2 : decide (r ≤ 8) = true := decide_eq_true (by omega)
      have g3 : decide (1 ≤ c) = true := decide_eq_true (by omega)
      simp only [g1, g2, g3, Bool.false_and, Bool.true_and, Bool.and_false, Bool.and_self] at HW
      have lOV := OV.out.cell
      have zOV := OV.out.lt
      go_wp2_with fail
      clear lOV zOV
      replace OX := Lib.hid (OX.out.alloc (.cells (arr8 W) 23))
      replace OY := Lib.hid (OY.out.alloc (.cells (arr8 W) 23))
      replace OZ := Lib.hid (OZ.out.alloc (.cells (arr8 W) 23))
      replace OV := Lib.hid (OV.out.alloc (.cells (arr8 W) 23))
      replace OM := Lib.hid (OM.out.alloc (.cells (arr8 W) 23))
      have OW := Lib.hid (Own.new w7 (arr8 W) 23)
      replace BEL := Lib.hid (BEL.out.alloc BEL.out.size (.cells (arr8 W) 23))
      generalize w7.heap.size = BW at *
      generalize w7.alloc (.cells (arr8 W) 23) = w8 at *
      have LOX := fun dd os o => OX.out.has.regrown dd os o
      have LOY := fun dd os o => OY.out.has.regrown dd os o
      have LOZ := fun dd os o => OZ.out.has.regrown dd os o
      have LOV := fun dd os o => OV.out.has.regrown dd os o
      have LOM := fun dd os o => OM.out.has.regrown dd os o
      have LOW := fun dd os o => OW.out.has.regrown dd os o
      have m1 := fun dd os => Lib.hid (Calls.regrown_of ((HW (Sort.grow (redrawn w8 dd) os)).out))
      have m2 := fun dd os => Lib.hid (Calls.regrown_of ((I7 (Sort.grow (redrawn w8 dd) os)).out))
      have m3 := fun dd os => Lib.hid (Calls.regrown_of ((WW (Sort.grow (redrawn w8 dd) os)).out))
      refine wp_region_quiet_below (by kernel_rfl) (by kernel_rfl) ?_
      repeat (first | go_big_quiet_step ((first | (with_reducible exact (m1 _ _).out) | (with_reducible exact (m2 _ _).out) | (with_reducible exact (m3 _ _).out))) | quiet_step (first | (with_reducible exact (m1 _ _).out) | (with_reducible exact (m2 _ _).out) | (with_reducible exact (m3 _ _).out)))
      refine wpQuiet_nil ?_
      intro w9 hw'
      have hb := regrown_below hw'
      clear hw' m1 m2 m3
      clear LOX LOY LOZ LOV LOM LOW
      replace BEL := Lib.hid (BEL.out.trans (hb.mono BEL.out.size))
      clear hb
      go_wp2_with fail
      go_ret
      exact ⟨rfl, BEL.out⟩

end Go.Proofs.Ytphomlolfadbpaa
