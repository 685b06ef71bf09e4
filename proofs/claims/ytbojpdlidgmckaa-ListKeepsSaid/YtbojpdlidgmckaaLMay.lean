/- The code's list.May, Get. Walked. -/
import Derived.Test.YtbojpdlidgmckaaLCmp
import Derived.Test.YtbojpdlidgmckaaStK
import Derived.Deep.DeepCutAuto
namespace Go.Proofs.Ytbojpdlidgmckaa
set_option linter.unusedVariables false
set_option linter.unusedSimpArgs false
open Go.RowKit

theorem mayC_calls (i : Itm) (w : World) :
    Calls Try.prog 24 #[iV i] w fun e w' => e = .returned (.bool (mayT i)) ∧ Below w.heap.size w w' :=
  itemMay_calls i.id i.r i.c i.st i.kd i.num i.x i.y i.d w
theorem mayLB_all {l : List Itm} (h1 : ∀ j a, j < l.length → l[j]? = some a → mayT a = true) (h2 : ∀ j a b, j + 1 < l.length → l[j]? = some a → l[j + 1]? = some b → upB a b = true) : mayLB l = true := by
  unfold mayLB
  rw [allI_true h1, rises_iff.2 fun j a b ha hb => h2 j a b (some_posI hb) ha hb]; rfl
theorem mayLB_item {l : List Itm} {k : Nat} {i : Itm} (hi : l[k]? = some i) (h : mayT i = false) : mayLB l = false := by
  unfold mayLB; rw [allI_false hi h]; rfl
theorem mayLB_up {l : List Itm} {k : Nat} {a b : Itm} (ha : l[k]? = some a) (hb : l[k + 1]? = some b) (h : upB a b = false) : mayLB l = false := by
  unfold mayLB; rw [rises_false ha hb h, Bool.and_false]
def LMayRel (l : List Itm) (len : Nat) (w : World) (iv : Value) (wr : World) : Prop :=
  ∃ k : Nat, k ≤ len ∧ iv = .int .i64 k ∧ Hid (∀ j a, j < k → l[j]? = some a → mayT a = true) ∧ Hid (∀ j a b, j + 1 < k → l[j]? = some a → l[j + 1]? = some b → upB a b = true) ∧ Hid (Below w.heap.size w wr)

set_option maxRecDepth 100000 in
set_option maxHeartbeats 8000000 in
theorem listMay_calls (l : List Itm) (v : Value) (w : World) (hR : Row 8 ic w l v) (_ : l.length ≤ 1000) :
    Calls Try.prog 9 #[v] w fun e w' => e = .returned (.bool (mayLB l)) ∧ Below w.heap.size w w' := by
  obtain ⟨oa, cap, b, o, rfl, hr⟩ := hR
  have HR := Lib.hid hr
  have HM := fun i w => mayC_calls i w
  have hcap := hr.len
  have hmax := hr.max
  unfold maxLen at hmax
  clear hr
  generalize hn : l.length = len at *
  have HN := Lib.hid hn
  clear hn
  go_enter Try.func9, Try.ntmps9
  go_wp2_with fail
  go_loopw [7] (fun iv wr => LMayRel l len w iv wr) (fun iv _ => len - (intOf iv).toNat)
  case atStart => exact ⟨0, Nat.zero_le _, rfl, fun j a hj => absurd hj (by omega), fun j a b hj => absurd hj (by omega), Below.refl _ _⟩
  case round =>
    obtain ⟨k, hk, rfl, HS, HU, HB⟩ := hrel
    by_cases hlt : k < len
    · obtain ⟨i, hi9⟩ : ∃ i, l[k]? = some i := ⟨_, List.getElem?_eq_getElem (by rw [HN.out]; omega)⟩
      obtain ⟨rfl, hb0⟩ := HR.out.at0 (by rw [HN.out]; omega)
      obtain ⟨c0, c1, c2, c3, c4, c5, c6, c7⟩ := ic_cells (w := wr) (fun j u hu => (HB.out.cell (p := ⟨b, o + k * 8 + j, none⟩) hb0).trans (HR.out.cell k i hi9 j u hu))
      have zb := Nat.lt_of_lt_of_le hb0 HB.out.size
      have O := Has.new wr (iA i) 34
      have HB1 := Lib.hid (HB.out.alloc HB.out.size (.cells (iA i) 34))
      have r0 := fun dd os => cell_regrown (O.cell 0) dd os
      have r1 := fun dd os => cell_regrown (O.cell 1) dd os
      have r2 := fun dd os => cell_regrown (O.cell 2) dd os
      have r3 := fun dd os => cell_regrown (O.cell 3) dd os
      have r4 := fun dd os => cell_regrown (O.cell 4) dd os
      have r5 := fun dd os => cell_regrown (O.cell 5) dd os
      have r6 := fun dd os => cell_regrown (O.cell 6) dd os
      have r7 := fun dd os => cell_regrown (O.cell 7) dd os
      have m1 := fun dd os => Lib.hid (Calls.regrown_of (HM i (Sort.grow (redrawn (wr.alloc (.cells (iA i) 34)) dd) os)))
      have k0 : (0 : Int) ≤ (k : Int) := by omega
      have k1 : (k : Int) < (len : Int) := by omega
      have HI := Lib.hid hi9
      clear hi9 O HM
      cases ht : mayT i
      · have E := Lib.hid (mayLB_item HI.out ht)
        rw [ht] at m1
        clear ht
        go_wp2_with fail
        refine wp_region_quiet_below (by kernel_rfl) (by kernel_rfl) ?_
        repeat (first | go_big_quiet_step ((with_reducible exact (m1 _ _).out)) | quiet_step ((with_reducible exact (m1 _ _).out)))
        refine wpQuiet_nil ?_
        intro w7 hw'
        have hb' := Lib.hid (regrown_below hw')
        clear hw'
        clear m1
        go_wp2_with fail
        go_ret
        exact ⟨ret_bool E.out.symm, HB1.out.trans (hb'.out.mono HB1.out.size)⟩
      · have HS2 := Lib.hid (allI_step HS.out HI.out ht)
        rw [ht] at m1
        clear ht
        by_cases hk0 : k = 0
        · subst hk0
          simp only [Nat.zero_mul, Nat.add_zero] at c0 c1 c2 c3 c4 c5 c6 c7
          have HU2 := Lib.hid (show ∀ j a b, j + 1 < 0 + 1 → l[j]? = some a → l[j + 1]? = some b → upB a b = true from fun j a b hj => absurd hj (by omega))
          go_wp2_with fail
          refine wp_region_quiet_below (by kernel_rfl) (by kernel_rfl) ?_
          repeat (first | go_big_quiet_step ((with_reducible exact (m1 _ _).out)) | quiet_step ((with_reducible exact (m1 _ _).out)))
          refine wpQuiet_nil ?_
          intro w7 hw'
          have hb' := Lib.hid (regrown_below hw')
          clear hw'
          clear m1 r0 r1 r2 r3 r4 r5 r6 r7
          go_wp2_with fail
          go_roundw
          case rel => exact ⟨0 + 1, by omega, by go_num, HS2.out, HU2.out, Lib.hid (HB1.out.trans (hb'.out.mono HB1.out.size))⟩
          case measure => simp [intOf]; omega
        · obtain ⟨q, rfl⟩ : ∃ q, k = q + 1 := ⟨k - 1, by omega⟩
          obtain ⟨y, hy9⟩ : ∃ y, l[q]? = some y := ⟨_, List.getElem?_eq_getElem (by rw [HN.out]; omega)⟩
          have d0 := (ic_cells (w := wr.alloc (.cells (iA i) 34)) (fun j u hu => (HB1.out.cell (p := ⟨b, o + q * 8 + j, none⟩) hb0).trans (HR.out.cell q y hy9 j u hu))).1
          have s0 := fun dd os => cell_regrown d0 dd os
          have p0 : (0 : Int) < ((q + 1 : Nat) : Int) := by omega
          have p1 : ((q + 1 : Nat) : Int) - 1 = (q : Int) := by omega
          have p2 : (q : Int) < (len : Int) := by omega
          have p3 : (0 : Int) ≤ (q : Int) := by omega
          have HY := Lib.hid hy9
          clear d0 hy9
          cases hu : upB y i
          · have E := Lib.hid (mayLB_up HY.out HI.out hu)
            have hg : Op.bytesLess y.id.toList i.id.toList = false := by rw [up_eq] at hu; exact hu
            clear hu
            go_wp2_with fail
            refine wp_region_quiet_below (by kernel_rfl) (by kernel_rfl) ?_
            repeat (first | go_big_quiet_step ((with_reducible exact (m1 _ _).out)) | quiet_step ((with_reducible exact (m1 _ _).out)))
            refine wpQuiet_nil ?_
            intro w7 hw'
            have hb' := Lib.hid (regrown_below hw')
            clear hw'
            clear m1
            go_wp2_with fail
            go_ret
            exact ⟨ret_bool E.out.symm, HB1.out.trans (hb'.out.mono HB1.out.size)⟩
          · have hg : Op.bytesLess y.id.toList i.id.toList = true := by rw [up_eq] at hu; exact hu
            have HU2 := Lib.hid (show ∀ j a b, j + 1 < q + 1 + 1 → l[j]? = some a → l[j + 1]? = some b → upB a b = true from fun j a b hj ha hb => by
              by_cases e : j = q
              · subst e; rw [HY.out] at ha; rw [HI.out] at hb; cases ha; cases hb; exact hu
              · exact HU.out j a b (by omega) ha hb)
            clear hu
            go_wp2_with fail
            refine wp_region_quiet_below (by kernel_rfl) (by kernel_rfl) ?_
            repeat (first | go_big_quiet_step ((with_reducible exact (m1 _ _).out)) | quiet_step ((with_reducible exact (m1 _ _).out)))
            refine wpQuiet_nil ?_
            intro w7 hw'
            have hb' := Lib.hid (regrown_below hw')
            clear hw'
            clear m1 r0 r1 r2 r3 r4 r5 r6 r7 s0
            go_wp2_with fail
            go_roundw
            case rel => exact ⟨q + 1 + 1, by omega, by go_num, HS2.out, HU2.out, Lib.hid (HB1.out.trans (hb'.out.mono HB1.out.size))⟩
            case measure => simp [intOf]; omega
    · have E := Lib.hid (mayLB_all (l := l) (fun j a hj ha => HS.out j a (by rw [HN.out] at hj; omega) ha) (fun j a b hj ha hb => HU.out j a b (by rw [HN.out] at hj; omega) ha hb))
      go_wp2_with fail
      go_ret
      exact ⟨ret_bool E.out.symm, HB.out⟩

set_option maxRecDepth 100000 in
set_option maxHeartbeats 4000000 in
theorem listGet_calls (l : List Itm) (id : ByteArray) (v : Value) (w : World) (hR : Row 8 ic w l v) (hr : RiseI l) (hl : l.length ≤ 1000) (_ : id.size ≤ maxLen) :
    Calls Try.prog 12 #[v, .string id] w fun e w' => e = .returned (.tuple #[iV (getI l id).1, .bool (getI l id).2]) ∧ Below w.heap.size w w' := by
  have LR := Lib.hid (hR.alloc (.cells (iA Itm.zero) 34))
  have S := Lib.hid (span_calls l id v _ LR.out hr (by omega))
  have OT := Lib.hid (Own.new w (iA Itm.zero) 34)
  have BEL := Lib.hid ((Below.refl w.heap.size w).alloc (Nat.le_refl _) (.cells (iA Itm.zero) 34))
  clear hR
  cases hh : hitI l id
  · have e := getI_miss hr hh
    have et : toI l id = posI l id := by unfold toI; rw [hh]; rfl
    rw [e]
    rw [et] at S
    clear hr hh
    obtain ⟨oa, cap, rfl⟩ := LR.out.val
    have hk := pos_le l id
    clear e et
    generalize posI l id = k at *
    go_enter Try.func12, Try.ntmps12
    go_wp2_with (go_at_call 25; refine S.out.mono ?_; rintro e w' ⟨rfl, hb⟩; replace OT := Lib.hid (OT.out.later hb); replace BEL := Lib.hid (BEL.out.trans (hb.mono BEL.out.size)); have l1 := OT.out.cell; have f1 := OT.out.free; have z1 := OT.out.lt)
    have key := And.intro (st8_own OT.out (.string ⟨#[]⟩) (.int .i64 0) (.int .i64 0) (.int .i64 0) (.string ⟨#[]⟩) (.int .i64 0) (.complex .f64 0 0) (.bool false)) (st8_below (b := w.heap.size) BEL.out (Nat.le_refl _) (.string ⟨#[]⟩) (.int .i64 0) (.int .i64 0) (.int .i64 0) (.string ⟨#[]⟩) (.int .i64 0) (.complex .f64 0 0) (.bool false))
    unfold st8 at key
    revert key
    generalize World.setCell (World.setCell (World.setCell (World.setCell (World.setCell (World.setCell (World.setCell (World.setCell _ _ _) _ _) _ _) _ _) _ _) _ _) _ _) _ _ = WW
    rintro ⟨of, bf⟩
    exact ret_cell_tmp (by rfl) (by rfl) (by rfl) (l := ic Itm.zero) of.range Try.underlying34 (by rfl) (by kernel_rfl) rfl ⟨rfl, bf⟩
  · obtain ⟨i, hi, e⟩ := getI_hit hr hh
    have et : toI l id = posI l id + 1 := by unfold toI; rw [hh]; rfl
    rw [e]
    rw [et] at S
    clear hr hh
    obtain ⟨oa, cap, b, o, rfl, hL⟩ := LR.out
    have hk := some_posI hi
    clear e et
    generalize posI l id = k at *
    obtain ⟨rfl, hb0⟩ := hL.at0 (by omega)
    have cs := fun j u hu => hL.cell k i hi j u hu
    have k0 : (0 : Int) ≤ (k : Int) := by omega
    have k1 : (k : Int) < (l.length : Int) := by omega
    have CS := Lib.hid cs
    have hne : decide ((k : Int) = (k : Int) + 1) = false := decide_eq_false (by omega)
    have hne2 : ((k : Int) == (k : Int) + 1) = false := by rw [beq_eq_false_iff_ne]; omega
    clear cs hL
    go_enter Try.func12, Try.ntmps12
    go_wp2_with (go_at_call 25; refine S.out.mono ?_; rintro e w' ⟨rfl, hb⟩; obtain ⟨c0, c1, c2, c3, c4, c5, c6, c7⟩ := ic_cells (w := w') (fun j u hu => (hb.cell (p := ⟨b, o + k * 8 + j, none⟩) hb0).trans (CS.out j u hu)); have zb := Nat.lt_of_lt_of_le hb0 hb.size; replace OT := Lib.hid (OT.out.later hb); replace BEL := Lib.hid (BEL.out.trans (hb.mono BEL.out.size)); have l1 := OT.out.cell; have f1 := OT.out.free; have z1 := OT.out.lt)
    have key := And.intro (st8_own OT.out (.string i.id) (.int .i64 i.r) (.int .i64 i.c) (.int .i64 i.st) (.string i.kd) (.int .i64 i.num) (.complex .f64 i.x i.y) (.bool i.d)) (st8_below (b := w.heap.size) BEL.out (Nat.le_refl _) (.string i.id) (.int .i64 i.r) (.int .i64 i.c) (.int .i64 i.st) (.string i.kd) (.int .i64 i.num) (.complex .f64 i.x i.y) (.bool i.d))
    unfold st8 at key
    revert key
    generalize World.setCell (World.setCell (World.setCell (World.setCell (World.setCell (World.setCell (World.setCell (World.setCell _ _ _) _ _) _ _) _ _) _ _) _ _) _ _) _ _ = WW
    rintro ⟨of, bf⟩
    exact ret_cell_tmp (by rfl) (by rfl) (by rfl) (l := ic i) of.range Try.underlying34 (by rfl) (by kernel_rfl) rfl ⟨rfl, bf⟩

end Go.Proofs.Ytbojpdlidgmckaa
