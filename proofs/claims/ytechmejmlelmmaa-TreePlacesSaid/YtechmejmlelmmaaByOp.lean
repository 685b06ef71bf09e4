/- Which filter is seen in which: the code's byOp, walked. -/
import Derived.Test.YtechmejmlelmmaaSeenC
namespace Go.Proofs.Ytechmejmlelmmaa
set_option linter.unusedVariables false
set_option linter.unusedSimpArgs false
set_option maxRecDepth 100000
open Go.RowKit

theorem Pr.part_not {t : ByteArray} {n : Int} {x y k : Nat} (h : Pr.partB 10 t n x y k = true) : k = 1 := by
  simp [Pr.partB] at h; exact h.1

set_option maxRecDepth 100000 in
set_option maxHeartbeats 4000000 in
theorem byOp_calls (p q : Pr) (H : ∀ a ∈ p.kids, ∀ b ∈ q.kids, CSeen b a) (v v' : Value) (w : World) (hL : LP w p v) (hM : LP w q v') (hpa : p.all = true) (hqa : q.all = true) :
    Calls Try.prog 31 #[pv p v, pv q v'] w fun e w' => e = .returned (.bool (Pr.restB p q)) ∧ Below w.heap.size w w' := by
  obtain ⟨oa, cap, b, o, V, rfl, ht, hl, hc, hn, hcell, hrec⟩ := lies_slice hL
  obtain ⟨oa', cap', b', o', V', rfl, ht', hl', hc', hn', hcell', hrec'⟩ := lies_slice hM
  obtain ⟨op, t, n, x, y, kids⟩ := p
  obtain ⟨op', t', n', x', y', kids'⟩ := q
  simp only [pv, Pr.kids_node, Pr.text_node, Pr.op_node, Pr.n_node, Pr.x_node, Pr.y_node] at *
  have HE := Lib.hid (Pr.restB_node op t n x y kids op' t' n' x' y' kids')
  generalize Pr.restB (Pr.node op t n x y kids) (Pr.node op' t' n' x' y' kids') = res at *
  simp only [Pr.all, Bool.and_eq_true] at hpa hqa
  have hp1 := hpa.1
  have hq1 := hqa.1
  clear hpa hqa hL hM hl hl'
  unfold maxLen at hc hc'
  have HC := Lib.hid hcell
  have HR := Lib.hid hrec
  have HN := Lib.hid hn
  have HC' := Lib.hid hcell'
  have HR' := Lib.hid hrec'
  have HN' := Lib.hid hn'
  have HH := Lib.hid H
  have HT := Lib.hid ht
  have HT' := Lib.hid ht'
  have P1 := Lib.hid hp1
  have P2 := Lib.hid hq1
  clear hcell hrec hn hcell' hrec' hn' H ht ht' hp1 hq1
  have G1 := Lib.hid ((Has.new w #[.int .i64 op, .string t, .int .i64 n, .complex .f64 x y, .slice oa kids.length cap] 37).alloc (.cells #[.int .i64 op', .string t', .int .i64 n', .complex .f64 x' y', .slice oa' kids'.length cap'] 37))
  have G2 := Lib.hid ((Own.newAt (w.alloc (.cells #[.int .i64 op, .string t, .int .i64 n, .complex .f64 x y, .slice oa kids.length cap] 37)) #[.int .i64 op', .string t', .int .i64 n', .complex .f64 x' y', .slice oa' kids'.length cap'] 37 (b := w.heap.size + 1) (by simp)).has)
  have BE := Lib.hid (((Below.refl w.heap.size w).alloc (Nat.le_refl _) (.cells #[.int .i64 op, .string t, .int .i64 n, .complex .f64 x y, .slice oa kids.length cap] 37)).alloc (by simp) (.cells #[.int .i64 op', .string t', .int .i64 n', .complex .f64 x' y', .slice oa' kids'.length cap'] 37))
  have f1 : ∀ x y, (FloatKind.f64.format.order x y == some .eq) = feq x y := fun _ _ => rfl
  by_cases ho : op = op'
  · subst ho
    have hop : op = 4 ∨ op = 5 ∨ op = 6 ∨ op = 7 ∨ op = 10 ∨ ((op == 4) = false ∧ (op == 5) = false ∧ (op == 6) = false ∧ (op == 7) = false ∧ (op == 10) = false) := by simp; omega
    rcases hop with rfl | rfl | rfl | rfl | rfl | ⟨n4, n5, n6, n7, n10⟩
    · have C := fun w => Lib.hid (prefix_calls t t' w HT.out HT'.out)
      go_enter Try.func31, Try.ntmps31
      go_wp2_with (go_at_call 43; refine (C _).out.mono ?_; rintro e w' ⟨rfl, rfl⟩)
      go_ret
      exact ⟨ret_bool (by rw [HE.out]; simp), BE.out⟩
    · go_enter Try.func31, Try.ntmps31
      go_wp2_with fail
      go_ret
      exact ⟨ret_bool (by rw [HE.out]; simp), BE.out⟩
    · go_enter Try.func31, Try.ntmps31
      go_wp2_with fail
      go_ret
      exact ⟨ret_bool (by rw [HE.out]; simp), BE.out⟩
    · go_enter Try.func31, Try.ntmps31
      go_wp2_with fail
      all_goals
        go_ret
        exact ⟨ret_bool (by rw [HE.out]; simp_all), BE.out⟩
    · have e1 := Pr.part_not P1.out
      have e2 := Pr.part_not P2.out
      obtain ⟨a, rfl⟩ := List.length_eq_one_iff.1 e1
      obtain ⟨c, rfl⟩ := List.length_eq_one_iff.1 e2
      clear e1 e2
      simp only [List.length_cons, List.length_nil] at *
      obtain ⟨rfl, hB⟩ := HN.out (by omega)
      obtain ⟨rfl, hB'⟩ := HN'.out (by omega)
      obtain ⟨oq, cq, hV⟩ := lies_val (HR.out 0 a rfl)
      obtain ⟨oq', cq', hV'⟩ := lies_val (HR'.out 0 c rfl)
      obtain ⟨c0, c1, c2, c3, c4⟩ := pc_cells (w := ((w.alloc (.cells #[.int .i64 10, .string t, .int .i64 n, .complex .f64 x y, .slice (some ⟨b, o, none⟩) (0 + 1) cap] 37)).alloc (.cells #[.int .i64 10, .string t', .int .i64 n', .complex .f64 x' y', .slice (some ⟨b', o', none⟩) (0 + 1) cap'] 37))) (fun j u hu => (BE.out.cell (p := ⟨b, o + 0 * 5 + j, none⟩) hB).trans (HC.out 0 a rfl j u hu))
      obtain ⟨d0, d1, d2, d3, d4⟩ := pc_cells (w := ((w.alloc (.cells #[.int .i64 10, .string t, .int .i64 n, .complex .f64 x y, .slice (some ⟨b, o, none⟩) (0 + 1) cap] 37)).alloc (.cells #[.int .i64 10, .string t', .int .i64 n', .complex .f64 x' y', .slice (some ⟨b', o', none⟩) (0 + 1) cap'] 37))) (fun j u hu => (BE.out.cell (p := ⟨b', o' + 0 * 5 + j, none⟩) hB').trans (HC'.out 0 c rfl j u hu))
      have L0 := (HR.out 0 a rfl).later BE.out (Nat.le_refl _)
      have M0 := (HR'.out 0 c rfl).later BE.out (Nat.le_refl _)
      rw [hV] at c4 L0
      rw [hV'] at d4 M0
      have CC := fun dd os => HH.out a (by simp) c (by simp) (.slice oq' c.kids.length cq') (.slice oq a.kids.length cq) (Sort.grow (redrawn ((w.alloc (.cells #[.int .i64 10, .string t, .int .i64 n, .complex .f64 x y, .slice (some ⟨b, o, none⟩) (0 + 1) cap] 37)).alloc (.cells #[.int .i64 10, .string t', .int .i64 n', .complex .f64 x' y', .slice (some ⟨b', o', none⟩) (0 + 1) cap'] 37)) dd) os) (M0.later (below_regrown _ _ _) (Nat.le_refl _)) (L0.later (below_regrown _ _ _) (Nat.le_refl _))
      have r0 := fun dd os => cell_regrown c0 dd os
      have r1 := fun dd os => cell_regrown c1 dd os
      have r2 := fun dd os => cell_regrown c2 dd os
      have r3 := fun dd os => cell_regrown c3 dd os
      have r4 := fun dd os => cell_regrown c4 dd os
      have s0 := fun dd os => cell_regrown d0 dd os
      have s1 := fun dd os => cell_regrown d1 dd os
      have s2 := fun dd os => cell_regrown d2 dd os
      have s3 := fun dd os => cell_regrown d3 dd os
      have s4 := fun dd os => cell_regrown d4 dd os
      have LA := fun dd os o => G1.out.regrown dd os o
      have LB := fun dd os o => G2.out.regrown dd os o
      have l1 := G1.out.cell
      have l2 := G2.out.cell
      have m3 := fun dd os => Lib.hid (Calls.regrown_of (CC dd os))
      have E := Lib.hid (show Pr.kidB [a] [c] = Pr.seenB c a from rfl)
      generalize Pr.seenB c a = rq at *
      clear hV hV' L0 M0 CC
      simp only [Nat.zero_mul, Nat.add_zero] at r0 r1 r2 r3 r4 s0 s1 s2 s3 s4
      clear c0 c1 c2 c3 c4 d0 d1 d2 d3 d4
      go_enter Try.func31, Try.ntmps31
      go_wp2_with fail
      refine wp_region_quiet_below (by kernel_rfl) (by kernel_rfl) ?_
      repeat (first | go_big_quiet_step ((with_reducible exact (m3 _ _).out)) | quiet_step (with_reducible exact (m3 _ _).out))
      refine wpQuiet_nil ?_
      intro w7 hw'
      have hb' := Lib.hid (regrown_below hw')
      clear hw' m3 r0 r1 r2 r3 r4 s0 s1 s2 s3 s4 LA LB
      go_wp2_with fail
      go_ret
      exact ⟨ret_bool (by rw [HE.out, E.out]; simp), below_new (below_new hb'.out)⟩
    · go_enter Try.func31, Try.ntmps31
      go_wp2_with fail
      go_ret
      exact ⟨ret_bool (by rw [HE.out]; simp at n4 n5 n6 n7 n10; simp [n4, n5, n6, n7, n10]), BE.out⟩
  · have hob : (op == op') = false := by simp [ho]
    go_enter Try.func31, Try.ntmps31
    go_wp2_with fail
    go_ret
    exact ⟨ret_bool (by rw [HE.out]; simp [ho]), BE.out⟩

end Go.Proofs.Ytechmejmlelmmaa
