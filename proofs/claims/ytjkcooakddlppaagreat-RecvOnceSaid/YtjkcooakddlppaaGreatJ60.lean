/- Joined: VecWith. -/
import Derived.Test.YtjkcooakddlppaaGreatJ19
import Derived.Test.YtjkcooakddlppaaGreatJ06
import Derived.StillTailTactics
namespace Go.Proofs.YtjkcooakddlppaaGreat
set_option linter.unusedVariables false
set_option linter.unusedSimpArgs false
set_option maxRecDepth 100000
open Go.RowKit
set_option maxRecDepth 100000 in
set_option maxHeartbeats 4000000 in
theorem vecWith_calls (A : Nat → Int) (r c : Int) (w : World) :
    Calls Tryz.prog 94 #[vecV A, .agg #[.int .i64 r, .int .i64 c]] w fun e w' => e = .returned (vecV (withV A r c)) ∧ Below w.heap.size w w' := by
  have O1 := Lib.hid (((Own.new w (arr8 A) 28).alloc (.cells #[.int .i64 r, .int .i64 c] 37)).alloc (.cells (arr8 fun _ => 0) 28))
  have O2 := Lib.hid ((Own.newAt (w.alloc (.cells (arr8 A) 28)) #[.int .i64 r, .int .i64 c] 37 (b := w.heap.size + 1) (by simp)).alloc (.cells (arr8 fun _ => 0) 28))
  have O3 := Lib.hid (Own.newAt ((w.alloc (.cells (arr8 A) 28)).alloc (.cells #[.int .i64 r, .int .i64 c] 37)) (arr8 fun _ => 0) 28 (b := w.heap.size + 1 + 1) (by simp))
  have BEL := Lib.hid ((((Below.refl w.heap.size w).alloc (Nat.le_refl _) (.cells (arr8 A) 28)).alloc (by simp) (.cells #[.int .i64 r, .int .i64 c] 37)).alloc (by simp; omega) (.cells (arr8 fun _ => 0) 28))
  have m := fun W => Lib.hid (replica_calls r W)
  by_cases h : r < 1 ∨ 8 < r
  · have HE := Lib.hid (with_out (A := A) (r := r) (c := c) h)
    have e := rep_no h
    clear h
    rw [e] at m
    clear e
    have l1 := O1.out.cell
    have z1 := O1.out.lt
    have l3 := O3.out.cell
    have f3 := O3.out.free
    have z3 := O3.out.lt
    have BEL2 := Lib.hid ((((Below.refl w.heap.size w).alloc (Nat.le_refl _) (.cells (arr8 A) 28)).alloc (by simp) (.cells #[.int .i64 r, .int .i64 c] 37)).alloc (by simp; omega) (.cells (arr8 A) 28))
    go_enter Tryz.func94, Tryz.ntmps94
    go_wp2_with (go_at_call 123; refine (m _).out.mono ?_; rintro e w2 ⟨rfl, rfl⟩)
    have lf := (Own.newAt ((w.alloc (.cells (arr8 A) 28)).alloc (.cells #[.int .i64 r, .int .i64 c] 37)) (arr8 A) 28 (b := w.heap.size + 1 + 1) (by simp)).cell
    refine bodyPost_ret (v := vecV A) (by simp [results, Tryz.results94, go_sem, lf]) rfl ⟨congrArg Ending.returned HE.out, BEL2.out⟩
  · obtain ⟨k, rfl⟩ : ∃ k : Nat, r = (k : Int) + 1 := ⟨(r - 1).toNat, by omega⟩
    have hk : k < 8 := by omega
    clear h
    have e := rep_yes hk
    rw [e] at m
    clear e
    have g3 : (k : Int) + 1 - 1 = (k : Int) := by omega
    have k0 : (0 : Int) ≤ (k : Int) := by omega
    have k1 : (k : Int) < 8 := by omega
    obtain ⟨v, hv⟩ : ∃ v : Int, v = if A k < c then c else A k := ⟨_, rfl⟩
    have HE := Lib.hid (show vecV (fun j => if j = k then v else A j) = vecV (withV A ((k : Int) + 1) c) by
      rw [hv]
      split
      · rename_i h; exact with_in hk h
      · rename_i h
        rw [← with_le (A := A) (k := k) (c := c) (by omega)]
        exact vec_congr fun j _ => by
          by_cases e : j = k
          · rw [if_pos e, e]
          · rw [if_neg e])
    have HO := Lib.hid (And.intro O1 (And.intro O2 (And.intro O3 BEL)))
    clear O1 O2 O3 BEL
    go_enter Tryz.func94, Tryz.ntmps94
    go_upto_region 2 with (go_at_call 123; refine (m _).out.mono ?_; rintro e w2 ⟨rfl, rfl⟩)
    clear m
    revert HO
    generalize World.alloc (World.alloc (World.alloc w _) _) _ = W
    intro HO
    obtain ⟨O1, O2, O3, BEL⟩ := HO.out
    clear HO
    have c1 := (O1.out.cell k).trans (arr_get A hk)
    have l2 := O2.out.cell
    have z2 := O2.out.lt
    have z1 := O1.out.lt
    by_cases h : A k < c
    all_goals
      first | have g4 : decide (A k < c) = true := decide_eq_true h | have g4 : decide (A k < c) = false := decide_eq_false h
      first | rw [if_pos h] at hv | rw [if_neg h] at hv
      refine region_still_tail 12 (by kernel_rfl) (by kernel_rfl) ?_
      simp only [List.take_succ_cons, List.take_zero, List.drop_succ_cons, List.drop_zero]
      have kw : IntKind.i64.wrap (k : Int) = (k : Int) := by rw [IntKind.wrap_i64]; omega
      repeat still_step
      refine wpStill_nil ?_
      clear c1 l2 z2 z1
      replace O1 := Lib.hid (O1.out.later (Below.refl _ _).drew)
      replace O3 := Lib.hid (O3.out.later (Below.refl _ _).drew)
      replace BEL := Lib.hid (BEL.out.trans ((Below.refl _ _).drew.mono BEL.out.size))
      clear O2 kw
      revert O1 O3 BEL
      generalize W.drew = W2
      intro O1 O3 BEL
      have c1 := (O1.out.cell k).trans (arr_get A hk)
      have f1 := O1.out.free k
      have z1 := O1.out.lt
      obtain ⟨F, hF⟩ : ∃ F : Nat → Int, F = (fun j => if j = k then v else A j) := ⟨_, rfl⟩
      have R1 := O1.out.set k (.int .i64 v)
      rw [arr_set _ hk, ← hF] at R1
      have he2 := HE.out
      rw [← hF] at he2
      have HE2 := Lib.hid he2
      have R3 := O3.out.setFar ⟨w.heap.size, k, none⟩ (.int .i64 v) (by show w.heap.size + 1 + 1 ≠ w.heap.size; omega)
      have B3 := BEL.out.setCell (p := ⟨w.heap.size, k, none⟩) (Nat.le_refl _) (.int .i64 v)
      have HX := Lib.hid (show Own _ _ _ _ ∧ Own _ _ _ _ ∧ Below _ _ _ from ⟨R1, R3, B3⟩)
      clear R1 R3 B3 HE hF he2
      rw [hv] at HX
      clear hv
      go_upto_region 3 with fail
      revert HX
      generalize World.setCell _ _ _ = W8
      intro HX
      have HR3 := Lib.hid HX.out.2.1
      have BR := Lib.hid HX.out.2.2
      clear f1 z1 c1
      have l1 := HX.out.1.cell
      have l3 := HX.out.2.1.cell
      have f3 := HX.out.2.1.free
      have z3 := HX.out.2.1.lt
      have z1 := HX.out.1.lt
      go_wp2_with fail
      have key := And.intro (st8_own HR3.out (.int .i64 (F 0)) (.int .i64 (F 1)) (.int .i64 (F 2)) (.int .i64 (F 3)) (.int .i64 (F 4)) (.int .i64 (F 5)) (.int .i64 (F 6)) (.int .i64 (F 7))) (st8_below (b := w.heap.size + 1 + 1) BR.out (by omega) (.int .i64 (F 0)) (.int .i64 (F 1)) (.int .i64 (F 2)) (.int .i64 (F 3)) (.int .i64 (F 4)) (.int .i64 (F 5)) (.int .i64 (F 6)) (.int .i64 (F 7)))
      clear l1 z1 l3 f3 z3
      unfold st8 at key
      revert key
      generalize World.setCell (World.setCell (World.setCell (World.setCell (World.setCell (World.setCell (World.setCell (World.setCell _ _ _) _ _) _ _) _ _) _ _) _ _) _ _) _ _ = WW
      rintro ⟨of, bf⟩
      have lf := of.cell
      refine bodyPost_ret (v := vecV F) (by simp [results, Tryz.results94, go_sem, lf]) rfl ⟨congrArg Ending.returned HE2.out, bf⟩
end Go.Proofs.YtjkcooakddlppaaGreat
