/- Which filter is seen in which: the code's byKids, walked. -/
import Derived.Test.YtechmejmlelmmaaSeenC
namespace Go.Proofs.Ytechmejmlelmmaa
set_option linter.unusedVariables false
set_option linter.unusedSimpArgs false
set_option maxRecDepth 100000
open Go.RowKit

set_option maxRecDepth 100000 in
set_option maxHeartbeats 4000000 in
theorem byKids_calls (p q : Pr) (H1 : ∀ k ∈ p.kids, CSeen k q) (H2 : ∀ k ∈ q.kids, CSeen p k) (v v' : Value) (w : World) (hL : LP w p v) (hM : LP w q v') :
    Calls Try.prog 30 #[pv p v, pv q v'] w fun e w' => e = .returned (.bool (Pr.listsB p q)) ∧ Below w.heap.size w w' := by
  obtain ⟨oa, cap, rfl⟩ := lies_val hL
  obtain ⟨oa', cap', rfl⟩ := lies_val hM
  generalize hp : p.kids.length = len at *
  generalize hq : q.kids.length = len' at *
  have hL2 := (hL.atAlloc (.cells (pa p (.slice oa len cap)) 37)).atAlloc (.cells (pa q (.slice oa' len' cap')) 37)
  have hM2 := (hM.atAlloc (.cells (pa p (.slice oa len cap)) 37)).atAlloc (.cells (pa q (.slice oa' len' cap')) 37)
  have g1 := (Has.new w (pa p (.slice oa len cap)) 37).alloc (.cells (pa q (.slice oa' len' cap')) 37)
  have g2 := (Own.newAt (w.alloc (.cells (pa p (.slice oa len cap)) 37)) (pa q (.slice oa' len' cap')) 37 (b := w.heap.size + 1) (by simp)).has
  have F1 := fun k hk => kid1_calls q (.slice oa' len' cap') k (H1 k hk) (w.heap.size + 1) _ hM2 g2
  have F2 := fun k hk => kid2_calls p (.slice oa len cap) k (H2 k hk) w.heap.size _ hL2 g1
  have lk1 := lies_kids hL2
  have lk2 := lies_kids hM2
  generalize hw2 : ((w.alloc (.cells (pa p (.slice oa len cap)) 37)).alloc (.cells (pa q (.slice oa' len' cap')) 37)) = w2 at *
  have CA1 := fun (w' : World) (hb : Below w2.heap.size w2 w') => Lib.hid (all_calls1 (w.heap.size + 1) (fun k => Pr.seenB k q) p.kids oa cap w' (fun k hk => (F1 k hk).later hb) (by rw [hp]; exact lk1.later hb (Nat.le_refl _)))
  have CA2 := fun (w' : World) (hb : Below w2.heap.size w2 w') => Lib.hid (all_calls2 w.heap.size (fun k => Pr.seenB p k) q.kids oa' cap' w' (fun k hk => (F2 k hk).later hb) (by rw [hq]; exact lk2.later hb (Nat.le_refl _)))
  have CE1 := fun (w' : World) (hb : Below w2.heap.size w2 w') => Lib.hid (contains_calls1 (w.heap.size + 1) (fun k => Pr.seenB k q) p.kids oa cap w' (fun k hk => (F1 k hk).later hb) (by rw [hp]; exact lk1.later hb (Nat.le_refl _)))
  have CE2 := fun (w' : World) (hb : Below w2.heap.size w2 w') => Lib.hid (contains_calls2 w.heap.size (fun k => Pr.seenB p k) q.kids oa' cap' w' (fun k hk => (F2 k hk).later hb) (by rw [hq]; exact lk2.later hb (Nat.le_refl _)))
  simp only [hp, hq] at CA1 CA2 CE1 CE2
  subst hw2
  have G1 := Lib.hid g1
  have G2 := Lib.hid g2
  clear g1 g2 F1 F2 lk1 lk2 hL2 hM2 hL hM H1 H2
  have HE := Lib.hid (show Pr.listsB p q = (((decide (p.op = 9) && p.kids.all fun k => Pr.seenB k q) || (decide (p.op = 8) && p.kids.any fun k => Pr.seenB k q)) || ((decide (q.op = 8) && q.kids.all fun k => Pr.seenB p k) || (decide (q.op = 9) && q.kids.any fun k => Pr.seenB p k))) from rfl)
  generalize Pr.listsB p q = res at *
  generalize (p.kids.all fun k => Pr.seenB k q) = x1 at *
  generalize (q.kids.all fun k => Pr.seenB p k) = y1 at *
  generalize (p.kids.any fun k => Pr.seenB k q) = x2 at *
  generalize (q.kids.any fun k => Pr.seenB p k) = y2 at *
  clear hp hq
  obtain ⟨op, t, n, x, y, kids⟩ := p
  obtain ⟨op', t', n', x', y', kids'⟩ := q
  simp only [pa, pv, Pr.text_node, Pr.op_node, Pr.n_node, Pr.x_node, Pr.y_node] at *
  have B0 := Lib.hid (Below.refl (((w.alloc (.cells #[.int .i64 op, .string t, .int .i64 n, .complex .f64 x y, .slice oa len cap] 37)).alloc (.cells #[.int .i64 op', .string t', .int .i64 n', .complex .f64 x' y', .slice oa' len' cap'] 37)).heap.size) ((w.alloc (.cells #[.int .i64 op, .string t, .int .i64 n, .complex .f64 x y, .slice oa len cap] 37)).alloc (.cells #[.int .i64 op', .string t', .int .i64 n', .complex .f64 x' y', .slice oa' len' cap'] 37)))
  have hop : op = 9 ∨ op = 8 ∨ ((op == 9) = false ∧ (op == 8) = false) := by simp; omega
  have hop' : op' = 8 ∨ op' = 9 ∨ ((op' == 8) = false ∧ (op' == 9) = false) := by simp; omega
  rcases hop with rfl | rfl | ⟨n9, n8⟩
  · rcases hop' with rfl | rfl | ⟨m8, m9⟩
    · clear CE1 CE2
      go_enter Try.func30, Try.ntmps30
      go_wp2_with fail
      refine (CA1 _ B0.out).out.mono ?_; rintro e w3 ⟨rfl, hb0⟩
      have B1 := Lib.hid (B0.out.trans (hb0.mono B0.out.size))
      have G1 := Lib.hid (G1.out.below hb0 G1.out.lt)
      have G2 := Lib.hid (G2.out.below hb0 G2.out.lt)
      clear hb0
      have l0 := G1.out.cell
      have m0 := G2.out.cell
      have z0 := G1.out.lt
      have u0 := G2.out.lt
      cases x1
      · go_wp2_with fail
        refine (CA2 _ B1.out).out.mono ?_; rintro e w4 ⟨rfl, hb1⟩
        have B2 := Lib.hid (B1.out.trans (hb1.mono B1.out.size))
        have G1 := Lib.hid (G1.out.below hb1 G1.out.lt)
        have G2 := Lib.hid (G2.out.below hb1 G2.out.lt)
        clear hb1
        have l1 := G1.out.cell
        have m1 := G2.out.cell
        have z1 := G1.out.lt
        have u1 := G2.out.lt
        cases y1
        · go_wp2_with fail
          go_ret
          exact ⟨ret_bool (by rw [HE.out]; (try simp only [beq_eq_false_iff_ne, ne_eq] at *); (try simp [*])), below_new (below_new B2.out)⟩
        · go_wp2_with fail
          go_ret
          exact ⟨ret_bool (by rw [HE.out]; (try simp only [beq_eq_false_iff_ne, ne_eq] at *); (try simp [*])), below_new (below_new B2.out)⟩
      · go_wp2_with fail
        go_ret
        exact ⟨ret_bool (by rw [HE.out]; (try simp only [beq_eq_false_iff_ne, ne_eq] at *); (try simp [*])), below_new (below_new B1.out)⟩
    · clear CA2 CE1
      go_enter Try.func30, Try.ntmps30
      go_wp2_with fail
      refine (CA1 _ B0.out).out.mono ?_; rintro e w3 ⟨rfl, hb0⟩
      have B1 := Lib.hid (B0.out.trans (hb0.mono B0.out.size))
      have G1 := Lib.hid (G1.out.below hb0 G1.out.lt)
      have G2 := Lib.hid (G2.out.below hb0 G2.out.lt)
      clear hb0
      have l0 := G1.out.cell
      have m0 := G2.out.cell
      have z0 := G1.out.lt
      have u0 := G2.out.lt
      cases x1
      · go_wp2_with fail
        refine (CE2 _ B1.out).out.mono ?_; rintro e w4 ⟨rfl, hb1⟩
        have B2 := Lib.hid (B1.out.trans (hb1.mono B1.out.size))
        have G1 := Lib.hid (G1.out.below hb1 G1.out.lt)
        have G2 := Lib.hid (G2.out.below hb1 G2.out.lt)
        clear hb1
        have l1 := G1.out.cell
        have m1 := G2.out.cell
        have z1 := G1.out.lt
        have u1 := G2.out.lt
        cases y2
        · go_wp2_with fail
          go_ret
          exact ⟨ret_bool (by rw [HE.out]; (try simp only [beq_eq_false_iff_ne, ne_eq] at *); (try simp [*])), below_new (below_new B2.out)⟩
        · go_wp2_with fail
          go_ret
          exact ⟨ret_bool (by rw [HE.out]; (try simp only [beq_eq_false_iff_ne, ne_eq] at *); (try simp [*])), below_new (below_new B2.out)⟩
      · go_wp2_with fail
        go_ret
        exact ⟨ret_bool (by rw [HE.out]; (try simp only [beq_eq_false_iff_ne, ne_eq] at *); (try simp [*])), below_new (below_new B1.out)⟩
    · clear CA2 CE1 CE2
      go_enter Try.func30, Try.ntmps30
      go_wp2_with fail
      refine (CA1 _ B0.out).out.mono ?_; rintro e w3 ⟨rfl, hb0⟩
      have B1 := Lib.hid (B0.out.trans (hb0.mono B0.out.size))
      have G1 := Lib.hid (G1.out.below hb0 G1.out.lt)
      have G2 := Lib.hid (G2.out.below hb0 G2.out.lt)
      clear hb0
      have l0 := G1.out.cell
      have m0 := G2.out.cell
      have z0 := G1.out.lt
      have u0 := G2.out.lt
      cases x1
      · go_wp2_with fail
        go_ret
        exact ⟨ret_bool (by rw [HE.out]; (try simp only [beq_eq_false_iff_ne, ne_eq] at *); (try simp [*])), below_new (below_new B1.out)⟩
      · go_wp2_with fail
        go_ret
        exact ⟨ret_bool (by rw [HE.out]; (try simp only [beq_eq_false_iff_ne, ne_eq] at *); (try simp [*])), below_new (below_new B1.out)⟩
  · rcases hop' with rfl | rfl | ⟨m8, m9⟩
    · clear CA1 CE2
      go_enter Try.func30, Try.ntmps30
      go_wp2_with fail
      refine (CA2 _ B0.out).out.mono ?_; rintro e w3 ⟨rfl, hb0⟩
      have B1 := Lib.hid (B0.out.trans (hb0.mono B0.out.size))
      have G1 := Lib.hid (G1.out.below hb0 G1.out.lt)
      have G2 := Lib.hid (G2.out.below hb0 G2.out.lt)
      clear hb0
      have l0 := G1.out.cell
      have m0 := G2.out.cell
      have z0 := G1.out.lt
      have u0 := G2.out.lt
      cases y1
      · go_wp2_with fail
        refine (CE1 _ B1.out).out.mono ?_; rintro e w4 ⟨rfl, hb1⟩
        have B2 := Lib.hid (B1.out.trans (hb1.mono B1.out.size))
        have G1 := Lib.hid (G1.out.below hb1 G1.out.lt)
        have G2 := Lib.hid (G2.out.below hb1 G2.out.lt)
        clear hb1
        have l1 := G1.out.cell
        have m1 := G2.out.cell
        have z1 := G1.out.lt
        have u1 := G2.out.lt
        cases x2
        · go_wp2_with fail
          go_ret
          exact ⟨ret_bool (by rw [HE.out]; (try simp only [beq_eq_false_iff_ne, ne_eq] at *); (try simp [*])), below_new (below_new B2.out)⟩
        · go_wp2_with fail
          go_ret
          exact ⟨ret_bool (by rw [HE.out]; (try simp only [beq_eq_false_iff_ne, ne_eq] at *); (try simp [*])), below_new (below_new B2.out)⟩
      · go_wp2_with fail
        go_ret
        exact ⟨ret_bool (by rw [HE.out]; (try simp only [beq_eq_false_iff_ne, ne_eq] at *); (try simp [*])), below_new (below_new B1.out)⟩
    · clear CA1 CA2
      go_enter Try.func30, Try.ntmps30
      go_wp2_with fail
      refine (CE1 _ B0.out).out.mono ?_; rintro e w3 ⟨rfl, hb0⟩
      have B1 := Lib.hid (B0.out.trans (hb0.mono B0.out.size))
      have G1 := Lib.hid (G1.out.below hb0 G1.out.lt)
      have G2 := Lib.hid (G2.out.below hb0 G2.out.lt)
      clear hb0
      have l0 := G1.out.cell
      have m0 := G2.out.cell
      have z0 := G1.out.lt
      have u0 := G2.out.lt
      cases x2
      · go_wp2_with fail
        refine (CE2 _ B1.out).out.mono ?_; rintro e w4 ⟨rfl, hb1⟩
        have B2 := Lib.hid (B1.out.trans (hb1.mono B1.out.size))
        have G1 := Lib.hid (G1.out.below hb1 G1.out.lt)
        have G2 := Lib.hid (G2.out.below hb1 G2.out.lt)
        clear hb1
        have l1 := G1.out.cell
        have m1 := G2.out.cell
        have z1 := G1.out.lt
        have u1 := G2.out.lt
        cases y2
        · go_wp2_with fail
          go_ret
          exact ⟨ret_bool (by rw [HE.out]; (try simp only [beq_eq_false_iff_ne, ne_eq] at *); (try simp [*])), below_new (below_new B2.out)⟩
        · go_wp2_with fail
          go_ret
          exact ⟨ret_bool (by rw [HE.out]; (try simp only [beq_eq_false_iff_ne, ne_eq] at *); (try simp [*])), below_new (below_new B2.out)⟩
      · go_wp2_with fail
        go_ret
        exact ⟨ret_bool (by rw [HE.out]; (try simp only [beq_eq_false_iff_ne, ne_eq] at *); (try simp [*])), below_new (below_new B1.out)⟩
    · clear CA1 CA2 CE2
      go_enter Try.func30, Try.ntmps30
      go_wp2_with fail
      refine (CE1 _ B0.out).out.mono ?_; rintro e w3 ⟨rfl, hb0⟩
      have B1 := Lib.hid (B0.out.trans (hb0.mono B0.out.size))
      have G1 := Lib.hid (G1.out.below hb0 G1.out.lt)
      have G2 := Lib.hid (G2.out.below hb0 G2.out.lt)
      clear hb0
      have l0 := G1.out.cell
      have m0 := G2.out.cell
      have z0 := G1.out.lt
      have u0 := G2.out.lt
      cases x2
      · go_wp2_with fail
        go_ret
        exact ⟨ret_bool (by rw [HE.out]; (try simp only [beq_eq_false_iff_ne, ne_eq] at *); (try simp [*])), below_new (below_new B1.out)⟩
      · go_wp2_with fail
        go_ret
        exact ⟨ret_bool (by rw [HE.out]; (try simp only [beq_eq_false_iff_ne, ne_eq] at *); (try simp [*])), below_new (below_new B1.out)⟩
  · rcases hop' with rfl | rfl | ⟨m8, m9⟩
    · clear CA1 CE1 CE2
      go_enter Try.func30, Try.ntmps30
      go_wp2_with fail
      refine (CA2 _ B0.out).out.mono ?_; rintro e w3 ⟨rfl, hb0⟩
      have B1 := Lib.hid (B0.out.trans (hb0.mono B0.out.size))
      have G1 := Lib.hid (G1.out.below hb0 G1.out.lt)
      have G2 := Lib.hid (G2.out.below hb0 G2.out.lt)
      clear hb0
      have l0 := G1.out.cell
      have m0 := G2.out.cell
      have z0 := G1.out.lt
      have u0 := G2.out.lt
      cases y1
      · go_wp2_with fail
        go_ret
        exact ⟨ret_bool (by rw [HE.out]; (try simp only [beq_eq_false_iff_ne, ne_eq] at *); (try simp [*])), below_new (below_new B1.out)⟩
      · go_wp2_with fail
        go_ret
        exact ⟨ret_bool (by rw [HE.out]; (try simp only [beq_eq_false_iff_ne, ne_eq] at *); (try simp [*])), below_new (below_new B1.out)⟩
    · clear CA1 CA2 CE1
      go_enter Try.func30, Try.ntmps30
      go_wp2_with fail
      refine (CE2 _ B0.out).out.mono ?_; rintro e w3 ⟨rfl, hb0⟩
      have B1 := Lib.hid (B0.out.trans (hb0.mono B0.out.size))
      have G1 := Lib.hid (G1.out.below hb0 G1.out.lt)
      have G2 := Lib.hid (G2.out.below hb0 G2.out.lt)
      clear hb0
      have l0 := G1.out.cell
      have m0 := G2.out.cell
      have z0 := G1.out.lt
      have u0 := G2.out.lt
      cases y2
      · go_wp2_with fail
        go_ret
        exact ⟨ret_bool (by rw [HE.out]; (try simp only [beq_eq_false_iff_ne, ne_eq] at *); (try simp [*])), below_new (below_new B1.out)⟩
      · go_wp2_with fail
        go_ret
        exact ⟨ret_bool (by rw [HE.out]; (try simp only [beq_eq_false_iff_ne, ne_eq] at *); (try simp [*])), below_new (below_new B1.out)⟩
    · clear CA1 CA2 CE1 CE2
      go_enter Try.func30, Try.ntmps30
      go_wp2_with fail
      go_ret
      exact ⟨ret_bool (by rw [HE.out]; (try simp only [beq_eq_false_iff_ne, ne_eq] at *); (try simp [*])), below_new (below_new B0.out)⟩

end Go.Proofs.Ytechmejmlelmmaa
