/- The code's Add. Walked. -/
import Derived.Test.YteofkbidahefeaaDskC
import Derived.Lib.SliceRun
import Derived.Deep.DeepCutAuto
import Derived.Deep.CutBlock
import Derived.Deep.RegionLaw
namespace Go.Proofs.Yteofkbidahefeaa
set_option linter.unusedVariables false
set_option linter.unusedSimpArgs false
set_option maxRecDepth 100000
open Go.RowKit

attribute [local go_sem ↓] run_slice_hI
set_option maxHeartbeats 2000000 in
theorem dkAdd_calls (d : Dk) (m : List Nat) (base g : Nat) (v sv : Value) (w : World) (h : Bx w base g (dkA d v) 47 d.l v) (hf : d.okF) (hM : ByW w m sv) (hn : d.l.length + m.length ≤ 140737488355328) :
    Calls Try.prog 18 #[.pointer (some ⟨g, 0, none⟩), sv] w fun e w' => DkP base g v w (dkA (addD d m)) 47 (addD d m).l (errV (addE d m)) e w' := by
  have l0 := h.o.cell
  unfold dkA at l0
  have f0 := h.o.free
  have z0 := h.o.lt
  have H := Lib.hid h
  clear h
  obtain ⟨l, fu, dn⟩ := d
  obtain ⟨oa, cap, rfl, hc, hm⟩ := H.out.row.val
  obtain ⟨ob, cb, rfl, hc2, hm2⟩ := hM.val
  have HM := Lib.hid hM
  have hok := hM.ok
  have HOK := Lib.hid hok
  clear hM hok
  dsimp only at l0 H hc hm hn ⊢
  unfold maxLen at hm hm2
  cases dn
  · cases fu with
    | none =>
      simp only [Dk.fz, Option.isSome_none] at l0
      have HP := Lib.hid (fun ty => run_append_at ty H.out.row HM.out hn H.out.size)
      rw [show addD ⟨l, none, false⟩ m = ⟨l ++ m, none, false⟩ from rfl, show addE ⟨l, none, false⟩ m = 0 from rfl, show errV 0 = .nilIface from rfl]
      go_enter Try.func18, Try.ntmps18
      go_wp2_with (first | (at_builtin; obtain ⟨v1, w1, hrun, hown, hgr, hsm⟩ := HP.out _; refine Lib.wpList_append_run _ rfl _ _ _ _ rfl _ _ rfl rfl _ _ hrun ?_; have hO := H.out.o.grown hgr (own_by_ne H.out.row H.out.o dk_ne); have l1 := hO.cell; simp only [dkA, Dk.fz, Option.isSome_none] at l1; have f1 := hO.free; have z1 := hO.lt; have HO := Lib.hid hO; obtain ⟨o1, c1, rfl, _, _⟩ := hown.val; have HW := Lib.hid (And.intro hown (And.intro hgr hsm)); clear hO hown hgr hsm hrun HP) | fail)
      go_ret
      refine ⟨.slice o1 (l.length + m.length) c1, rfl, ?_⟩
      exact H.out.pushed dk_ne (by simpa using HW.out.1) (ok_append H.out.ok HOK.out) HW.out.2.1 (by simpa using HW.out.2.2) 0
    | some n =>
      simp only [Dk.fz, Option.isSome_some] at l0
      have hf1 := hf n rfl
      clear hf
      by_cases hlt : m.length < n
      · have HP := Lib.hid (HM.out.upto m.length (by omega))
        have e1 : addD ⟨l, some n, false⟩ m = ⟨l ++ m, some (n - m.length), false⟩ := by simp [addD, hlt]
        have e2 : addE ⟨l, some n, false⟩ m = 0 := by simp [addE, hlt]
        rw [e1, e2, show errV 0 = .nilIface from rfl]
        clear e1 e2
        have g1 : min (n : Int) (m.length : Int) = m.length := by omega
        have HD := Lib.hid H.out
        have MT := HP
        have B0 := Lib.hid (Below.refl w.heap.size w)
        have OA : Hid (Own w g #[.slice oa l.length cap, .int .i64 (n : Int), .bool true, .bool false] 47) := H.out.o
        go_enter Try.func18, Try.ntmps18
        go_upto_region 7 with fail
        clear l0 f0 z0
        refine monoN_start (T := fun j => j = g ∨ some j = (Value.slice oa l.length cap).ownBlock) (D := fun k => k == 8 || k == 11) (by kernel_rfl) (fun wd hbd => ?_)
        replace OA := Lib.hid (OA.out.later hbd)
        replace HD := Lib.hid (HD.out.later hbd)
        replace MT := Lib.hid (MT.out.later hbd)
        replace B0 := Lib.hid (B0.out.trans (Below.mono hbd B0.out.size))
        clear hbd
        refine monoN_stay (i := 0) (v := ?_) rfl (by kernel_rfl) (by kernel_rfl) (by kernel_rfl) (fun _ _ _ h => h) (Or.inl ⟨by rfl, ?_⟩) ?_
        rotate_left 1
        · (intro wL hL; go_simp; try with_reducible rfl)
        try simp only [Act.put, List.getElem_toArray, List.getElem_cons_zero, List.getElem_cons_succ, List.setIfInBounds_toArray, List.set_cons_zero, List.set_cons_succ]
        refine monoN_stay (i := 1) (v := ?_) rfl (by kernel_rfl) (by kernel_rfl) (by kernel_rfl) (fun _ _ _ h => h) (Or.inl ⟨by rfl, ?_⟩) ?_
        rotate_left 1
        · (intro wL hL; go_simp; try with_reducible rfl)
        try simp only [Act.put, List.getElem_toArray, List.getElem_cons_zero, List.getElem_cons_succ, List.setIfInBounds_toArray, List.set_cons_zero, List.set_cons_succ]
        refine monoN_stay (i := 2) (v := ?_) rfl (by kernel_rfl) (by kernel_rfl) (by kernel_rfl) (fun _ _ _ h => h) (Or.inl ⟨by rfl, ?_⟩) ?_
        rotate_left 1
        · (intro wL hL; go_simp; try with_reducible rfl)
        try simp only [Act.put, List.getElem_toArray, List.getElem_cons_zero, List.getElem_cons_succ, List.setIfInBounds_toArray, List.set_cons_zero, List.set_cons_succ]
        refine monoN_stay (i := 3) (v := ?_) rfl (by kernel_rfl) (by kernel_rfl) (by kernel_rfl) (fun _ _ _ h => h) (Or.inl ⟨by rfl, ?_⟩) ?_
        rotate_left 1
        · (intro wL hL; go_simp; try with_reducible rfl)
        try simp only [Act.put, List.getElem_toArray, List.getElem_cons_zero, List.getElem_cons_succ, List.setIfInBounds_toArray, List.set_cons_zero, List.set_cons_succ]
        refine monoN_take (i := 4) (v := ?_) rfl (by kernel_rfl) (by kernel_rfl) (by kernel_rfl) (by kernel_rfl) (fun _ _ _ h => h) (Or.inl ⟨by rfl, ?_⟩) ?_
        rotate_left 1
        · (intro wL hL; have lL := (OA.out.later hL).cell; have zL := (OA.out.later hL).lt; go_simp; try with_reducible rfl)
        try simp only [Act.put, List.getElem_toArray, List.getElem_cons_zero, List.getElem_cons_succ, List.setIfInBounds_toArray, List.set_cons_zero, List.set_cons_succ]
        refine monoN_stay (i := 5) (v := ?_) rfl (by kernel_rfl) (by kernel_rfl) (by kernel_rfl) (fun _ _ _ h => h) (Or.inl ⟨by rfl, ?_⟩) ?_
        rotate_left 1
        · (intro wL hL; go_simp; try with_reducible rfl)
        try simp only [Act.put, List.getElem_toArray, List.getElem_cons_zero, List.getElem_cons_succ, List.setIfInBounds_toArray, List.set_cons_zero, List.set_cons_succ]
        refine monoN_stay (i := 6) (v := ?_) rfl (by kernel_rfl) (by kernel_rfl) (by kernel_rfl) (fun _ _ _ h => h) (Or.inl ⟨by rfl, ?_⟩) ?_
        rotate_left 1
        · (intro wL hL; go_simp; try with_reducible rfl)
        try simp only [Act.put, List.getElem_toArray, List.getElem_cons_zero, List.getElem_cons_succ, List.setIfInBounds_toArray, List.set_cons_zero, List.set_cons_succ]
        refine monoN_stay (i := 7) (v := ?_) rfl (by kernel_rfl) (by kernel_rfl) (by kernel_rfl) (fun _ _ _ h => h) (Or.inl ⟨by rfl, ?_⟩) ?_
        rotate_left 1
        · (intro wL hL; have q1 : ((m.length : Int) : Int) ≤ cb := (by omega); have q2 : (0 : Int) ≤ (m.length : Int) := (by omega); go_simp; try with_reducible rfl)
        try simp only [Act.put, List.getElem_toArray, List.getElem_cons_zero, List.getElem_cons_succ, List.setIfInBounds_toArray, List.set_cons_zero, List.set_cons_succ]
        refine monoN_r1 (i := 8) (by kernel_rfl) ?_
        obtain ⟨v1, w1, hrun, hown, hgr, hsm⟩ := run_append_at 26 HD.out.row MT.out (by simp only [List.length_take]; omega) HD.out.size
        refine stepN_ok (by rfl) (by rfl) (w1 := w1) (v := v1) (exec_append _ _ _ _ (by rfl) _ _ (by rfl) (by rfl) hrun) (fun h => by cases h) ⟨hgr.size, fun b hb hS => hgr.block b hb (fun e => hS (.inr e))⟩ ?_
        have OB := Lib.hid (OA.out.grown hgr (own_by_ne HD.out.row OA.out dk_ne))
        obtain ⟨o1, c1, rfl, _, _⟩ := hown.val
        have HW := Lib.hid (And.intro hown (And.intro hgr hsm))
        clear hown hgr hsm hrun OA MT
        try simp only [Act.put, List.getElem_toArray, List.getElem_cons_zero, List.getElem_cons_succ, List.setIfInBounds_toArray, List.set_cons_zero, List.set_cons_succ]
        refine monoN_stay (i := 9) (v := ?_) rfl (by kernel_rfl) (by kernel_rfl) (by kernel_rfl) (fun _ _ _ h => h) (Or.inl ⟨by rfl, ?_⟩) ?_
        rotate_left 1
        · (intro wL hL; go_simp; try with_reducible rfl)
        try simp only [Act.put, List.getElem_toArray, List.getElem_cons_zero, List.getElem_cons_succ, List.setIfInBounds_toArray, List.set_cons_zero, List.set_cons_succ]
        refine monoN_stay (i := 10) (v := ?_) rfl (by kernel_rfl) (by kernel_rfl) (by kernel_rfl) (fun _ _ _ h => h) (Or.inl ⟨by rfl, ?_⟩) ?_
        rotate_left 1
        · (intro wL hL; go_simp; try with_reducible rfl)
        try simp only [Act.put, List.getElem_toArray, List.getElem_cons_zero, List.getElem_cons_succ, List.setIfInBounds_toArray, List.set_cons_zero, List.set_cons_succ]
        refine monoN_r1 (i := 11) (by kernel_rfl) ?_
        refine stepN_set (by rfl) (by rfl) g 0 (.slice o1 (l ++ m.take m.length).length c1) (by have lL := OB.out.cell; have fL := OB.out.free; have zL := OB.out.lt; go_simp; try rfl) (by rfl) (.inl rfl) ?_
        try simp only [Act.put, List.getElem_toArray, List.getElem_cons_zero, List.getElem_cons_succ, List.setIfInBounds_toArray, List.set_cons_zero, List.set_cons_succ]
        refine monoN_done (by kernel_rfl) ?_ _
        have l1 := OB.out.cell
        have f1 := OB.out.free
        have z1 := OB.out.lt
        go_wp2_with fail
        go_ret
        refine ⟨.slice o1 (l ++ m.take m.length).length c1, rfl, ?_⟩
        have hp := HD.out.pushed dk_ne HW.out.1 (ok_append H.out.ok (fun x hx => HOK.out x (List.mem_of_mem_take hx))) HW.out.2.1 HW.out.2.2 0
        have e4 : dkA ⟨l ++ m, some (n - m.length), false⟩ (.slice o1 (l ++ m.take m.length).length c1) = ((dkA ⟨l, some n, false⟩ (.slice oa l.length cap)).setIfInBounds 0 (.slice o1 (l ++ m.take m.length).length c1)).setIfInBounds 1 (.int .i64 ((n : Int) - m.length)) := by simp [dkA, Dk.fz]; omega
        rw [e4]
        have hp2 := ((hp.set dk_ne 1 (.int .i64 ((n : Int) - m.length))).from B0.out H.out.size)
        simp only [List.take_length, List.length_append] at hp2 ⊢
        exact hp2
      · have HP := Lib.hid (HM.out.upto n (by omega))
        have e1 : addD ⟨l, some n, false⟩ m = ⟨l ++ m.take n, none, true⟩ := by simp [addD, hlt]
        have e2 : addE ⟨l, some n, false⟩ m = 8 := by simp [addE, hlt]
        rw [e1, e2, show errV 8 = .iface 44 (.int .i64 8) from rfl]
        clear e1 e2
        have g1 : min (n : Int) (m.length : Int) = n := by omega
        have HD := Lib.hid H.out
        have MT := HP
        have B0 := Lib.hid (Below.refl w.heap.size w)
        have OA : Hid (Own w g #[.slice oa l.length cap, .int .i64 (n : Int), .bool true, .bool false] 47) := H.out.o
        go_enter Try.func18, Try.ntmps18
        go_upto_region 7 with fail
        clear l0 f0 z0
        refine monoN_start (T := fun j => j = g ∨ some j = (Value.slice oa l.length cap).ownBlock) (D := fun k => k == 8 || k == 11) (by kernel_rfl) (fun wd hbd => ?_)
        replace OA := Lib.hid (OA.out.later hbd)
        replace HD := Lib.hid (HD.out.later hbd)
        replace MT := Lib.hid (MT.out.later hbd)
        replace B0 := Lib.hid (B0.out.trans (Below.mono hbd B0.out.size))
        clear hbd
        refine monoN_stay (i := 0) (v := ?_) rfl (by kernel_rfl) (by kernel_rfl) (by kernel_rfl) (fun _ _ _ h => h) (Or.inl ⟨by rfl, ?_⟩) ?_
        rotate_left 1
        · (intro wL hL; go_simp; try with_reducible rfl)
        try simp only [Act.put, List.getElem_toArray, List.getElem_cons_zero, List.getElem_cons_succ, List.setIfInBounds_toArray, List.set_cons_zero, List.set_cons_succ]
        refine monoN_stay (i := 1) (v := ?_) rfl (by kernel_rfl) (by kernel_rfl) (by kernel_rfl) (fun _ _ _ h => h) (Or.inl ⟨by rfl, ?_⟩) ?_
        rotate_left 1
        · (intro wL hL; go_simp; try with_reducible rfl)
        try simp only [Act.put, List.getElem_toArray, List.getElem_cons_zero, List.getElem_cons_succ, List.setIfInBounds_toArray, List.set_cons_zero, List.set_cons_succ]
        refine monoN_stay (i := 2) (v := ?_) rfl (by kernel_rfl) (by kernel_rfl) (by kernel_rfl) (fun _ _ _ h => h) (Or.inl ⟨by rfl, ?_⟩) ?_
        rotate_left 1
        · (intro wL hL; go_simp; try with_reducible rfl)
        try simp only [Act.put, List.getElem_toArray, List.getElem_cons_zero, List.getElem_cons_succ, List.setIfInBounds_toArray, List.set_cons_zero, List.set_cons_succ]
        refine monoN_stay (i := 3) (v := ?_) rfl (by kernel_rfl) (by kernel_rfl) (by kernel_rfl) (fun _ _ _ h => h) (Or.inl ⟨by rfl, ?_⟩) ?_
        rotate_left 1
        · (intro wL hL; go_simp; try with_reducible rfl)
        try simp only [Act.put, List.getElem_toArray, List.getElem_cons_zero, List.getElem_cons_succ, List.setIfInBounds_toArray, List.set_cons_zero, List.set_cons_succ]
        refine monoN_take (i := 4) (v := ?_) rfl (by kernel_rfl) (by kernel_rfl) (by kernel_rfl) (by kernel_rfl) (fun _ _ _ h => h) (Or.inl ⟨by rfl, ?_⟩) ?_
        rotate_left 1
        · (intro wL hL; have lL := (OA.out.later hL).cell; have zL := (OA.out.later hL).lt; go_simp; try with_reducible rfl)
        try simp only [Act.put, List.getElem_toArray, List.getElem_cons_zero, List.getElem_cons_succ, List.setIfInBounds_toArray, List.set_cons_zero, List.set_cons_succ]
        refine monoN_stay (i := 5) (v := ?_) rfl (by kernel_rfl) (by kernel_rfl) (by kernel_rfl) (fun _ _ _ h => h) (Or.inl ⟨by rfl, ?_⟩) ?_
        rotate_left 1
        · (intro wL hL; go_simp; try with_reducible rfl)
        try simp only [Act.put, List.getElem_toArray, List.getElem_cons_zero, List.getElem_cons_succ, List.setIfInBounds_toArray, List.set_cons_zero, List.set_cons_succ]
        refine monoN_stay (i := 6) (v := ?_) rfl (by kernel_rfl) (by kernel_rfl) (by kernel_rfl) (fun _ _ _ h => h) (Or.inl ⟨by rfl, ?_⟩) ?_
        rotate_left 1
        · (intro wL hL; go_simp; try with_reducible rfl)
        try simp only [Act.put, List.getElem_toArray, List.getElem_cons_zero, List.getElem_cons_succ, List.setIfInBounds_toArray, List.set_cons_zero, List.set_cons_succ]
        refine monoN_stay (i := 7) (v := ?_) rfl (by kernel_rfl) (by kernel_rfl) (by kernel_rfl) (fun _ _ _ h => h) (Or.inl ⟨by rfl, ?_⟩) ?_
        rotate_left 1
        · (intro wL hL; have q1 : ((n : Int) : Int) ≤ cb := (by omega); have q2 : (0 : Int) ≤ (n : Int) := (by omega); go_simp; try with_reducible rfl)
        try simp only [Act.put, List.getElem_toArray, List.getElem_cons_zero, List.getElem_cons_succ, List.setIfInBounds_toArray, List.set_cons_zero, List.set_cons_succ]
        refine monoN_r1 (i := 8) (by kernel_rfl) ?_
        obtain ⟨v1, w1, hrun, hown, hgr, hsm⟩ := run_append_at 26 HD.out.row MT.out (by simp only [List.length_take]; omega) HD.out.size
        refine stepN_ok (by rfl) (by rfl) (w1 := w1) (v := v1) (exec_append _ _ _ _ (by rfl) _ _ (by rfl) (by rfl) hrun) (fun h => by cases h) ⟨hgr.size, fun b hb hS => hgr.block b hb (fun e => hS (.inr e))⟩ ?_
        have OB := Lib.hid (OA.out.grown hgr (own_by_ne HD.out.row OA.out dk_ne))
        obtain ⟨o1, c1, rfl, _, _⟩ := hown.val
        have HW := Lib.hid (And.intro hown (And.intro hgr hsm))
        clear hown hgr hsm hrun OA MT
        try simp only [Act.put, List.getElem_toArray, List.getElem_cons_zero, List.getElem_cons_succ, List.setIfInBounds_toArray, List.set_cons_zero, List.set_cons_succ]
        refine monoN_stay (i := 9) (v := ?_) rfl (by kernel_rfl) (by kernel_rfl) (by kernel_rfl) (fun _ _ _ h => h) (Or.inl ⟨by rfl, ?_⟩) ?_
        rotate_left 1
        · (intro wL hL; go_simp; try with_reducible rfl)
        try simp only [Act.put, List.getElem_toArray, List.getElem_cons_zero, List.getElem_cons_succ, List.setIfInBounds_toArray, List.set_cons_zero, List.set_cons_succ]
        refine monoN_stay (i := 10) (v := ?_) rfl (by kernel_rfl) (by kernel_rfl) (by kernel_rfl) (fun _ _ _ h => h) (Or.inl ⟨by rfl, ?_⟩) ?_
        rotate_left 1
        · (intro wL hL; go_simp; try with_reducible rfl)
        try simp only [Act.put, List.getElem_toArray, List.getElem_cons_zero, List.getElem_cons_succ, List.setIfInBounds_toArray, List.set_cons_zero, List.set_cons_succ]
        refine monoN_r1 (i := 11) (by kernel_rfl) ?_
        refine stepN_set (by rfl) (by rfl) g 0 (.slice o1 (l ++ m.take n).length c1) (by have lL := OB.out.cell; have fL := OB.out.free; have zL := OB.out.lt; go_simp; try rfl) (by rfl) (.inl rfl) ?_
        try simp only [Act.put, List.getElem_toArray, List.getElem_cons_zero, List.getElem_cons_succ, List.setIfInBounds_toArray, List.set_cons_zero, List.set_cons_succ]
        refine monoN_done (by kernel_rfl) ?_ _
        have l1 := OB.out.cell
        have f1 := OB.out.free
        have z1 := OB.out.lt
        go_wp2_with fail
        go_ret
        refine ⟨.slice o1 (l ++ m.take n).length c1, rfl, ?_⟩
        have hp := HD.out.pushed dk_ne HW.out.1 (ok_append H.out.ok (fun x hx => HOK.out x (List.mem_of_mem_take hx))) HW.out.2.1 HW.out.2.2 0
        have e4 : dkA ⟨l ++ m.take n, none, true⟩ (.slice o1 (l ++ m.take n).length c1) = ((((dkA ⟨l, some n, false⟩ (.slice oa l.length cap)).setIfInBounds 0 (.slice o1 (l ++ m.take n).length c1)).setIfInBounds 1 (.int .i64 0)).setIfInBounds 2 (.bool false)).setIfInBounds 3 (.bool true) := by simp [dkA, Dk.fz]
        rw [e4]
        have hp2 := (((hp.set dk_ne 1 (.int .i64 0)).set dk_ne 2 (.bool false)).set dk_ne 3 (.bool true)).from B0.out H.out.size
        simp only [List.length_append, List.length_take] at hp2 ⊢
        exact hp2
  · rw [(addD_down (d := ⟨l, fu, true⟩) (m := m) rfl).1, (addD_down (d := ⟨l, fu, true⟩) (m := m) rfl).2, show errV 8 = .iface 44 (.int .i64 8) from rfl]
    go_enter Try.func18, Try.ntmps18
    go_wp2
    go_ret
    exact ⟨_, rfl, H.out.stay⟩

end Go.Proofs.Yteofkbidahefeaa
