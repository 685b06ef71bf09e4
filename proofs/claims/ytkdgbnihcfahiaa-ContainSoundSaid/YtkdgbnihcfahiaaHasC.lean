/- Which items a filter has: the code's Has, walked. -/
import Derived.Test.YtkdgbnihcfahiaaHas
namespace Go.Proofs.Ytkdgbnihcfahiaa
open Go.RowKit

theorem all_any (i : It) (l : List Pr) : Pr.hasAll i l = !(l.any fun k => k.hasB i == false) := by
  induction l with
  | nil => simp [Pr.hasAll]
  | cons a l ih => simp only [Pr.hasAll, ih, List.any_cons, Bool.not_or]; cases Pr.hasB i a <;> simp
theorem any_any (i : It) (l : List Pr) : Pr.hasAny i l = l.any fun k => k.hasB i == true := by
  induction l with
  | nil => simp [Pr.hasAny]
  | cons a l ih => simp only [Pr.hasAny, ih, List.any_cons]; cases Pr.hasB i a <;> simp

set_option maxRecDepth 100000 in
set_option maxHeartbeats 4000000 in
theorem has_calls (i : It) (r c st : Int) (d : Bool) (hid : i.id.size ≤ maxLen) (p : Pr) : HasFn i r c st d p := by
  induction p using Pr.ind with
  | h op t n x y kids ih =>
    intro v w hL
    obtain ⟨oa, cap, b, o, V, rfl, ht, hl, hc, hn, hcell, hrec⟩ := lies_slice hL
    have LK0 := lies_kids hL
    simp only [Pr.kids_node, Pr.text_node, Pr.op_node, Pr.n_node, Pr.x_node, Pr.y_node] at *
    unfold maxLen at hc
    have SM := fun b w' h => Lib.hid (some_calls i r c st d b kids ih oa cap w' h)
    have LL := fun a a' => Lib.hid ((LK0.atAlloc a).atAlloc a')
    have HC := Lib.hid hcell
    have HR := Lib.hid hrec
    have HN := Lib.hid hn
    have HI := Lib.hid ih
    have HT := Lib.hid ht
    have HID := Lib.hid hid
    clear hL LK0 hcell hrec hn ih ht hid
    have HAll := Lib.hid (all_any i kids)
    have HAny := Lib.hid (any_any i kids)
    generalize hlen : kids.length = len at *
    have HLEN := Lib.hid hlen
    clear hlen
    generalize hres : Pr.hasB i (.node op t n x y kids) = res
    have HRES := Lib.hid hres
    clear hres
    have BE := fun (a a' : Obj) => Lib.hid (((Below.refl w.heap.size w).alloc (Nat.le_refl _) a).alloc (by simp) a')
    have hop : op = 1 ∨ op = 3 ∨ op = 4 ∨ op = 5 ∨ op = 6 ∨ op = 7 ∨ op = 8 ∨ op = 9 ∨ op = 10 ∨ (op ≠ 1 ∧ op ≠ 3 ∧ op ≠ 4 ∧ op ≠ 5 ∧ op ≠ 6 ∧ op ≠ 7 ∧ op ≠ 8 ∧ op ≠ 9 ∧ op ≠ 10) := by omega
    rcases hop with rfl | rfl | rfl | rfl | rfl | rfl | rfl | rfl | rfl | ⟨n1, n3, n4, n5, n6, n7, n8, n9, n10⟩
    · have E := Lib.hid (show res = true by rw [← HRES.out]; simp [Pr.hasB])
      go_enter Try.func12, Try.ntmps12
      go_wp2_with fail
      go_ret
      exact ⟨ret_bool E.out.symm, (BE _ _).out⟩
    · have E := Lib.hid (show res = decide (i.kd.toList = t.toList) by rw [← HRES.out]; simp [Pr.hasB])
      go_enter Try.func12, Try.ntmps12
      go_wp2_with fail
      all_goals
        go_ret
        exact ⟨ret_bool (by rw [E.out]; first | done | (rw [Bool.eq_iff_iff]; simp; done) | (simp_all; done)), (BE _ _).out⟩
    · have E := Lib.hid (show res = begB i.id t by rw [← HRES.out]; simp [Pr.hasB])
      have C := fun w => Lib.hid (prefix_calls i.id t w HID.out HT.out)
      go_enter Try.func12, Try.ntmps12
      go_wp2_with (go_at_call 18; refine (C _).out.mono ?_; rintro e w' ⟨rfl, rfl⟩)
      go_ret
      exact ⟨ret_bool E.out.symm, (BE _ _).out⟩
    · have E := Lib.hid (show res = decide (i.num < n) by rw [← HRES.out]; simp [Pr.hasB])
      go_enter Try.func12, Try.ntmps12
      go_wp2_with fail
      all_goals
        go_ret
        exact ⟨ret_bool (by rw [E.out]; first | done | (rw [Bool.eq_iff_iff]; simp; done) | (simp_all; done)), (BE _ _).out⟩
    · have E := Lib.hid (show res = decide (n ≤ i.num) by rw [← HRES.out]; simp [Pr.hasB])
      go_enter Try.func12, Try.ntmps12
      go_wp2_with fail
      all_goals
        go_ret
        exact ⟨ret_bool (by rw [E.out]; first | done | (rw [Bool.eq_iff_iff]; simp; done) | (simp_all; done)), (BE _ _).out⟩
    · have E := Lib.hid (show res = nearB i.ax i.ay x y n by rw [← HRES.out]; simp [Pr.hasB])
      have C := fun w => Lib.hid (near_calls i.ax i.ay x y n w)
      generalize nearB i.ax i.ay x y n = fv at *
      go_enter Try.func12, Try.ntmps12
      go_wp2_with (go_at_call 19; refine (C _).out.mono ?_; rintro e w' ⟨rfl, rfl⟩)
      go_ret
      exact ⟨ret_bool E.out.symm, (BE _ _).out⟩
    · have E := Lib.hid (show res = !(kids.any fun k => k.hasB i == false) by rw [← HRES.out, ← HAll.out]; simp [Pr.hasB])
      go_enter Try.func12, Try.ntmps12
      go_wp2_with (go_at_call 20; refine (SM _ _ (LL _ _).out).out.mono ?_; rintro e w' ⟨rfl, hb⟩)
      go_ret
      exact ⟨ret_bool (by rw [E.out]; simp), below_new (below_new hb)⟩
    · have E := Lib.hid (show res = (kids.any fun k => k.hasB i == true) by rw [← HRES.out, ← HAny.out]; simp [Pr.hasB])
      go_enter Try.func12, Try.ntmps12
      go_wp2_with (go_at_call 20; refine (SM _ _ (LL _ _).out).out.mono ?_; rintro e w' ⟨rfl, hb⟩)
      go_ret
      exact ⟨ret_bool (by rw [E.out]; simp), below_new (below_new hb)⟩
    · by_cases h0 : len = 0
      · subst h0
        have E := Lib.hid (show res = false by rw [← HRES.out, List.length_eq_zero_iff.1 HLEN.out]; simp [Pr.hasB, Pr.hasNot])
        have G1 := Lib.hid ((Has.new w #[.int .i64 10, .string t, .int .i64 n, .complex .f64 x y, .slice oa 0 cap] 31).alloc (.cells (itC i r c st d) 40))
        have G2 := Lib.hid ((Own.newAt (w.alloc (.cells #[.int .i64 10, .string t, .int .i64 n, .complex .f64 x y, .slice oa 0 cap] 31)) (itC i r c st d) 40 (b := w.heap.size + 1) (by simp)).has)
        have LA := fun dd os o => G1.out.regrown dd os o
        have LB := fun dd os o => G2.out.regrown dd os o
        have l1 := G1.out.cell
        go_enter Try.func12, Try.ntmps12
        go_wp2_with fail
        refine wp_region_quiet_below (by kernel_rfl) (by kernel_rfl) ?_
        repeat (first | go_big_quiet_step (fail) | quiet_step (fail))
        refine wpQuiet_nil ?_
        intro w7 hw'
        have hb' := Lib.hid (regrown_below hw')
        clear hw'
        go_wp2_with fail
        go_ret
        exact ⟨ret_bool E.out.symm, below_new (below_new hb'.out)⟩
      · obtain ⟨q, hq⟩ : ∃ q, kids[0]? = some q := ⟨_, List.getElem?_eq_getElem (by rw [HLEN.out]; omega)⟩
        obtain ⟨rfl, hB⟩ := HN.out (by omega)
        obtain ⟨oq, cq, hV⟩ := lies_val (HR.out 0 q hq)
        have hbw : Below w.heap.size w ((w.alloc (.cells #[.int .i64 10, .string t, .int .i64 n, .complex .f64 x y, .slice (some ⟨b, o, none⟩) len cap] 31)).alloc (.cells (itC i r c st d) 40)) := (BE _ _).out
        obtain ⟨c0, c1, c2, c3, c4⟩ := pc_cells (w := ((w.alloc (.cells #[.int .i64 10, .string t, .int .i64 n, .complex .f64 x y, .slice (some ⟨b, o, none⟩) len cap] 31)).alloc (.cells (itC i r c st d) 40))) (fun j u hu => (hbw.cell (p := ⟨b, o + 0 * 5 + j, none⟩) hB).trans (HC.out 0 q hq j u hu))
        have L0 := (HR.out 0 q hq).later hbw (Nat.le_refl _)
        rw [hV] at c4 L0
        have CC := fun dd os => HI.out q (List.mem_of_getElem? hq) (.slice oq q.kids.length cq) (Sort.grow (redrawn ((w.alloc (.cells #[.int .i64 10, .string t, .int .i64 n, .complex .f64 x y, .slice (some ⟨b, o, none⟩) len cap] 31)).alloc (.cells (itC i r c st d) 40)) dd) os) (L0.later (below_regrown _ _ _) (Nat.le_refl _))
        have r0 := fun dd os => cell_regrown c0 dd os
        have r1 := fun dd os => cell_regrown c1 dd os
        have r2 := fun dd os => cell_regrown c2 dd os
        have r3 := fun dd os => cell_regrown c3 dd os
        have r4 := fun dd os => cell_regrown c4 dd os
        have G1 := Lib.hid ((Has.new w #[.int .i64 10, .string t, .int .i64 n, .complex .f64 x y, .slice (some ⟨b, o, none⟩) len cap] 31).alloc (.cells (itC i r c st d) 40))
        have G2 := Lib.hid ((Own.newAt (w.alloc (.cells #[.int .i64 10, .string t, .int .i64 n, .complex .f64 x y, .slice (some ⟨b, o, none⟩) len cap] 31)) (itC i r c st d) 40 (b := w.heap.size + 1) (by simp)).has)
        have LA := fun dd os o => G1.out.regrown dd os o
        have LB := fun dd os o => G2.out.regrown dd os o
        have l1 := G1.out.cell
        have E := Lib.hid (show res = !(Pr.hasB i q) by
          rw [← HRES.out]
          match kids, hq with
          | a :: l, hq => simp at hq; subst hq; simp [Pr.hasB, Pr.hasNot])
        have m3 := fun dd os => Lib.hid (Calls.regrown_of (CC dd os))
        have hk0 : (0 : Int) < (len : Int) := by omega
        have hk1 : 0 < len := by omega
        have hk2 : decide (0 < len) = true := by simp; omega
        have hk3 : decide ((0 : Int) < (len : Int)) = true := by simp; omega
        generalize Pr.hasB i q = rq at *
        clear hV L0 hq CC hbw
        simp only [Nat.zero_mul, Nat.add_zero] at r0 r1 r2 r3 r4
        go_enter Try.func12, Try.ntmps12
        go_wp2_with fail
        refine wp_region_quiet_below (by kernel_rfl) (by kernel_rfl) ?_
        repeat (first | go_big_quiet_step ((with_reducible exact (m3 _ _).out)) | quiet_step (with_reducible exact (m3 _ _).out))
        refine wpQuiet_nil ?_
        intro w7 hw'
        have hb' := Lib.hid (regrown_below hw')
        clear hw' m3 r0 r1 r2 r3 r4 LA LB
        go_wp2_with fail
        go_ret
        exact ⟨ret_bool E.out.symm, below_new (below_new hb'.out)⟩
    · have E := Lib.hid (show res = false by rw [← HRES.out]; simp [Pr.hasB, n1, n3, n4, n5, n6, n7, n8, n9, n10])
      go_enter Try.func12, Try.ntmps12
      go_wp2_with fail
      go_ret
      exact ⟨ret_bool E.out.symm, (BE _ _).out⟩

end Go.Proofs.Ytkdgbnihcfahiaa
