/- Which filter is seen in which: the code's seen, walked whole. -/
import Derived.Test.YtechmejmlelmmaaByKids
import Derived.Test.YtechmejmlelmmaaByOp
namespace Go.Proofs.Ytechmejmlelmmaa
set_option linter.unusedVariables false
set_option linter.unusedSimpArgs false
set_option maxRecDepth 100000
open Go.RowKit

set_option maxRecDepth 100000 in
set_option maxHeartbeats 4000000 in
theorem seen_step (p q : Pr) (H1 : ∀ k ∈ p.kids, CSeen k q) (H2 : ∀ k ∈ q.kids, CSeen p k) (H3 : ∀ a ∈ p.kids, ∀ b ∈ q.kids, CSeen b a) (hpa : p.all = true) (hqa : q.all = true) : CSeen p q := by
  intro v v' w hL hM
  obtain ⟨oa, cap, rfl⟩ := lies_val hL
  obtain ⟨oa', cap', rfl⟩ := lies_val hM
  generalize p.kids.length = len at *
  generalize q.kids.length = len' at *
  have hL2 := (hL.atAlloc (.cells (pa p (.slice oa len cap)) 37)).atAlloc (.cells (pa q (.slice oa' len' cap')) 37)
  have hM2 := (hM.atAlloc (.cells (pa p (.slice oa len cap)) 37)).atAlloc (.cells (pa q (.slice oa' len' cap')) 37)
  have G1 := Lib.hid ((Has.new w (pa p (.slice oa len cap)) 37).alloc (.cells (pa q (.slice oa' len' cap')) 37))
  have G2 := Lib.hid ((Own.newAt (w.alloc (.cells (pa p (.slice oa len cap)) 37)) (pa q (.slice oa' len' cap')) 37 (b := w.heap.size + 1) (by simp)).has)
  have B0 := Lib.hid (Below.refl ((w.alloc (.cells (pa p (.slice oa len cap)) 37)).alloc (.cells (pa q (.slice oa' len' cap')) 37)).heap.size ((w.alloc (.cells (pa p (.slice oa len cap)) 37)).alloc (.cells (pa q (.slice oa' len' cap')) 37)))
  generalize hw2 : ((w.alloc (.cells (pa p (.slice oa len cap)) 37)).alloc (.cells (pa q (.slice oa' len' cap')) 37)) = w2 at *
  have CS := fun (w' : World) (hb : Below w2.heap.size w2 w') => Lib.hid (same_any p q _ _ w' (hL2.later hb (Nat.le_refl _)) (hM2.later hb (Nat.le_refl _)))
  have CK := fun (w' : World) (hb : Below w2.heap.size w2 w') => Lib.hid (byKids_calls p q H1 H2 _ _ w' (hL2.later hb (Nat.le_refl _)) (hM2.later hb (Nat.le_refl _)))
  have CO := fun (w' : World) (hb : Below w2.heap.size w2 w') => Lib.hid (byOp_calls p q H3 _ _ w' (hL2.later hb (Nat.le_refl _)) (hM2.later hb (Nat.le_refl _)) hpa hqa)
  subst hw2
  have HE := Lib.hid (Pr.seenB_eq p q)
  clear hL hM hL2 hM2 H1 H2 H3 hpa hqa
  generalize Pr.seenB p q = res at *
  generalize Pr.same p q = x1 at *
  generalize Pr.listsB p q = x2 at *
  generalize Pr.restB p q = x3 at *
  obtain ⟨op, t, n, x, y, kids⟩ := p
  obtain ⟨op', t', n', x', y', kids'⟩ := q
  simp only [pa, pv, Pr.text_node, Pr.op_node, Pr.n_node, Pr.x_node, Pr.y_node] at *
  have hop : op' = 1 ∨ ((op' == 1) = false ∧ op = 2) ∨ ((op' == 1) = false ∧ (op == 2) = false) := by simp; omega
  rcases hop with rfl | ⟨n1, rfl⟩ | ⟨n1, n2⟩
  · clear CS CK CO
    go_enter Try.func18, Try.ntmps18
    go_wp2_with fail
    go_ret
    exact ⟨ret_bool (by rw [HE.out]; simp), below_new (below_new B0.out)⟩
  · clear CS CK CO
    go_enter Try.func18, Try.ntmps18
    go_wp2_with fail
    go_ret
    exact ⟨ret_bool (by rw [HE.out]; simp), below_new (below_new B0.out)⟩
  · go_enter Try.func18, Try.ntmps18
    go_wp2_with fail
    refine (CS _ B0.out).out.mono ?_; rintro e w3 ⟨rfl, hb0⟩
    have B1 := Lib.hid (B0.out.trans (hb0.mono B0.out.size))
    have G1 := Lib.hid (G1.out.below hb0 G1.out.lt)
    have G2 := Lib.hid (G2.out.below hb0 G2.out.lt)
    clear hb0
    have l0 := G1.out.cell
    have m0 := G2.out.cell
    have z0 := G1.out.lt
    have u0 := G2.out.lt
    cases x1
    · go_wp2_with fail
      refine (CK _ B1.out).out.mono ?_; rintro e w4 ⟨rfl, hb1⟩
      have B2 := Lib.hid (B1.out.trans (hb1.mono B1.out.size))
      have G1 := Lib.hid (G1.out.below hb1 G1.out.lt)
      have G2 := Lib.hid (G2.out.below hb1 G2.out.lt)
      clear hb1
      have l1 := G1.out.cell
      have m1 := G2.out.cell
      have z1 := G1.out.lt
      have u1 := G2.out.lt
      cases x2
      · go_wp2_with fail
        refine (CO _ B2.out).out.mono ?_; rintro e w5 ⟨rfl, hb2⟩
        have B3 := Lib.hid (B2.out.trans (hb2.mono B2.out.size))
        have G1 := Lib.hid (G1.out.below hb2 G1.out.lt)
        have G2 := Lib.hid (G2.out.below hb2 G2.out.lt)
        clear hb2
        have l2 := G1.out.cell
        have m2 := G2.out.cell
        have z2 := G1.out.lt
        have u2 := G2.out.lt
        cases x3
        · go_wp2_with fail
          go_ret
          exact ⟨ret_bool (by rw [HE.out]; (try simp only [beq_eq_false_iff_ne, ne_eq] at *); (try simp [*])), below_new (below_new B3.out)⟩
        · go_wp2_with fail
          go_ret
          exact ⟨ret_bool (by rw [HE.out]; (try simp only [beq_eq_false_iff_ne, ne_eq] at *); (try simp [*])), below_new (below_new B3.out)⟩
      · go_wp2_with fail
        go_ret
        exact ⟨ret_bool (by rw [HE.out]; (try simp only [beq_eq_false_iff_ne, ne_eq] at *); (try simp [*])), below_new (below_new B2.out)⟩
    · go_wp2_with fail
      go_ret
      exact ⟨ret_bool (by rw [HE.out]; (try simp only [beq_eq_false_iff_ne, ne_eq] at *); (try simp [*])), below_new (below_new B1.out)⟩

theorem cseen_all : ∀ (n : Nat) (p q : Pr), p.size + q.size ≤ n → p.all = true → q.all = true → CSeen p q := by
  intro n
  induction n with
  | zero => intro p q h; have := Pr.size_pos p; omega
  | succ n ih =>
    intro p q h hp hq
    have hpk := fun k (hk : k ∈ p.kids) => And.intro (Pr.alls_iff.1 (Pr.all_kids hp) k hk) (Pr.kid_size hk)
    have hqk := fun k (hk : k ∈ q.kids) => And.intro (Pr.alls_iff.1 (Pr.all_kids hq) k hk) (Pr.kid_size hk)
    exact seen_step p q (fun k hk => ih k q (by have := (hpk k hk).2; omega) (hpk k hk).1 hq) (fun k hk => ih p k (by have := (hqk k hk).2; omega) hp (hqk k hk).1)
      (fun a ha b hb => ih b a (by have := (hpk a ha).2; have := (hqk b hb).2; omega) (hqk b hb).1 (hpk a ha).1) hp hq
theorem cseen_calls (p q : Pr) (hp : p.all = true) (hq : q.all = true) : CSeen p q := cseen_all _ p q (Nat.le_refl _) hp hq

end Go.Proofs.Ytechmejmlelmmaa
