/- Whether two filters are the same: the document's answer. -/
import Derived.Test.YtechmejmlelmmaaSame
namespace Go.Proofs.Ytechmejmlelmmaa
set_option linter.unusedVariables false
set_option linter.unusedSimpArgs false
set_option maxRecDepth 100000
open Go.RowKit

def RefSameFn (k : Pr) : Prop := ∀ (q : Pr) (v v' : Value) (w : World), LP w k v → LP w q v' →
    Calls Try.prog 35 #[.agg #[.int .i64 k.op, .string k.text, .int .i64 k.n, .complex .f64 k.x k.y, v], .agg #[.int .i64 q.op, .string q.text, .int .i64 q.n, .complex .f64 q.x q.y, v']] w fun e w' => e = .returned (.bool (Pr.same k q)) ∧ Below w.heap.size w w'

set_option maxRecDepth 100000 in
set_option maxHeartbeats 4000000 in
theorem refSame_any (p : Pr) : RefSameFn p := by
  induction p using Pr.ind with
  | h op t n x y l ih =>
    intro q v v' w hL hL'
    obtain ⟨op', t', n', x', y', m⟩ := q
    obtain ⟨oa, cap, b, o, V, rfl, _, hl, hc, hn, hcell, hrec⟩ := lies_slice hL
    obtain ⟨ob, cap', b', o', V', rfl, _, hl', hc', hn', hcell', hrec'⟩ := lies_slice hL'
    simp only [Pr.kids_node, Pr.text_node, Pr.op_node, Pr.n_node, Pr.x_node, Pr.y_node] at *
    unfold maxLen at hc hc'
    have HC := Lib.hid hcell
    have HR := Lib.hid hrec
    have HN := Lib.hid hn
    have HC' := Lib.hid hcell'
    have HR' := Lib.hid hrec'
    have HN' := Lib.hid hn'
    have HH := Lib.hid ih
    clear hL hcell hrec hn hL' hcell' hrec' hn' ih
    have f2 : Pr.same (.node op t n x y l) (.node op' t' n' x' y' m) = (decide (op = op') && (decide (t.toList = t'.toList) && (decide (n = n') && ((feq x x' && feq y y') && Pr.sames l m)))) := by simp [Pr.same]
    have HLen := Lib.hid (fun h => Pr.sames_not_len (l := l) (m := m) h)
    rw [f2]
    clear f2
    generalize hs : Pr.sames l m = sm
    have HSM := Lib.hid hs
    clear hs
    rw [HSM.out] at HLen
    generalize hla : l.length = la at *
    generalize hlb : m.length = lb at *
    have HLA := Lib.hid hla
    have HLB := Lib.hid hlb
    clear hla hlb
    by_cases e1 : ¬ op = op'
    · go_enter Try.func35, Try.ntmps35
      go_wp2_with fail
      go_ret
      exact ⟨ret_bool (by simp [e1]), ((Below.refl _ _).alloc (Nat.le_refl _) _).alloc (by simp) _⟩
    have e1 := Decidable.not_not.1 e1
    by_cases e2 : ¬ t.toList = t'.toList
    · subst e1
      go_enter Try.func35, Try.ntmps35
      go_wp2_with fail
      go_ret
      exact ⟨ret_bool (by simp [e2]), ((Below.refl _ _).alloc (Nat.le_refl _) _).alloc (by simp) _⟩
    have e2 := Decidable.not_not.1 e2
    by_cases e3 : ¬ n = n'
    · subst e1
      go_enter Try.func35, Try.ntmps35
      go_wp2_with fail
      go_ret
      exact ⟨ret_bool (by simp [e3]), ((Below.refl _ _).alloc (Nat.le_refl _) _).alloc (by simp) _⟩
    have e3 := Decidable.not_not.1 e3
    subst e1
    subst e3
    by_cases g4 : ¬ (FloatKind.f64.format.order x x' = some .eq)
    · have e4 : feq x x' = false := by simp [feq, g4]
      rw [e4]
      go_enter Try.func35, Try.ntmps35
      go_wp2_with fail
      go_ret
      exact ⟨ret_bool (by simp), ((Below.refl _ _).alloc (Nat.le_refl _) _).alloc (by simp) _⟩
    have g4 := Decidable.not_not.1 g4
    have e4 : feq x x' = true := by simp [feq, g4]
    rw [e4]
    by_cases g5 : ¬ (FloatKind.f64.format.order y y' = some .eq)
    · have e5 : feq y y' = false := by simp [feq, g5]
      rw [e5]
      go_enter Try.func35, Try.ntmps35
      go_wp2_with fail
      go_ret
      exact ⟨ret_bool (by simp), ((Below.refl _ _).alloc (Nat.le_refl _) _).alloc (by simp) _⟩
    have g5 := Decidable.not_not.1 g5
    have e5 : feq y y' = true := by simp [feq, g5]
    rw [e5]
    by_cases e6 : ¬ la = lb
    · have hz := HLen.out e6
      subst hz
      go_enter Try.func35, Try.ntmps35
      go_wp2_with fail
      go_ret
      exact ⟨ret_bool (by simp), ((Below.refl _ _).alloc (Nat.le_refl _) _).alloc (by simp) _⟩
    have e6 := Decidable.not_not.1 e6
    subst e6
    rw [decide_eq_true rfl, decide_eq_true e2, decide_eq_true rfl, Bool.true_and, Bool.true_and, Bool.true_and, Bool.true_and, Bool.true_and]
    go_enter Try.func35, Try.ntmps35
    go_wp2_with fail
    go_loopw [5] (fun i wr => EqRel l m la ((w.alloc (.cells #[.int .i64 op, .string t, .int .i64 n, .complex .f64 x y, .slice oa la cap] 37)).alloc (.cells #[.int .i64 op, .string t', .int .i64 n, .complex .f64 x' y', .slice ob la cap'] 37)) i wr) (fun i _ => la - (intOf i).toNat)
    case atStart => exact ⟨0, Nat.zero_le _, rfl, by simp [Hid, Pr.sames], Below.refl _ _⟩
    case round =>
      obtain ⟨k, hk, rfl, HS, hb⟩ := hrel
      have G1 := Lib.hid (((Has.new w #[.int .i64 op, .string t, .int .i64 n, .complex .f64 x y, .slice oa la cap] 37).alloc (.cells #[.int .i64 op, .string t', .int .i64 n, .complex .f64 x' y', .slice ob la cap'] 37)).below hb (by simp; omega))
      have G2 := Lib.hid ((Own.newAt (w.alloc (.cells #[.int .i64 op, .string t, .int .i64 n, .complex .f64 x y, .slice oa la cap] 37)) #[.int .i64 op, .string t', .int .i64 n, .complex .f64 x' y', .slice ob la cap'] 37 (b := w.heap.size + 1) (by simp)).has.below hb (by simp))
      by_cases hlt : k < la
      · obtain ⟨p, hp⟩ : ∃ p, l[k]? = some p := ⟨_, List.getElem?_eq_getElem (by rw [HLA.out]; exact hlt)⟩
        obtain ⟨q, hq⟩ : ∃ q, m[k]? = some q := ⟨_, List.getElem?_eq_getElem (by rw [HLB.out]; exact hlt)⟩
        obtain ⟨rfl, hB⟩ := HN.out (by omega)
        obtain ⟨rfl, hB'⟩ := HN'.out (by omega)
        obtain ⟨oq, cq, hV⟩ := lies_val (HR.out k p hp)
        obtain ⟨oq', cq', hV'⟩ := lies_val (HR'.out k q hq)
        have hbw : Below w.heap.size w wr := below_new (below_new hb)
        obtain ⟨c0, c1, c2, c3, c4⟩ := pc_cells (w := wr) (fun j u hu => (hbw.cell (p := ⟨b, o + k * 5 + j, none⟩) hB).trans (HC.out k p hp j u hu))
        obtain ⟨d0, d1, d2, d3, d4⟩ := pc_cells (w := wr) (fun j u hu => (hbw.cell (p := ⟨b', o' + k * 5 + j, none⟩) hB').trans (HC'.out k q hq j u hu))
        have L0 := (HR.out k p hp).later hbw (Nat.le_refl _)
        have M0 := (HR'.out k q hq).later hbw (Nat.le_refl _)
        rw [hV] at c4 L0
        rw [hV'] at d4 M0
        have CC := fun dd os => HH.out p (List.mem_of_getElem? hp) q (.slice oq p.kids.length cq) (.slice oq' q.kids.length cq') (Sort.grow (redrawn wr dd) os) (L0.later (below_regrown _ _ _) (Nat.le_refl _)) (M0.later (below_regrown _ _ _) (Nat.le_refl _))
        have HB := Lib.hid hb
        have HS0 := HS.out
        have r0 := fun dd os => cell_regrown c0 dd os
        have r1 := fun dd os => cell_regrown c1 dd os
        have r2 := fun dd os => cell_regrown c2 dd os
        have r3 := fun dd os => cell_regrown c3 dd os
        have r4 := fun dd os => cell_regrown c4 dd os
        have s0 := fun dd os => cell_regrown d0 dd os
        have s1 := fun dd os => cell_regrown d1 dd os
        have s2 := fun dd os => cell_regrown d2 dd os
        have s3 := fun dd os => cell_regrown d3 dd os
        have s4 := fun dd os => cell_regrown d4 dd os
        have LA := fun dd os o => G1.out.regrown dd os o
        have LB := fun dd os o => G2.out.regrown dd os o
        have l1 := G1.out.cell
        have l2 := G2.out.cell
        cases hs : Pr.same p q
        · have HF := Lib.hid (Pr.sames_at hp hq hs)
          rw [hs] at CC
          have m3 := fun dd os => Lib.hid (Calls.regrown_of (CC dd os))
          clear hb hV hV' L0 M0 HS0 hs hp hq CC hbw
          go_wp2_with fail
          refine wp_region_quiet_below (by kernel_rfl) (by kernel_rfl) ?_
          repeat (first | go_big_quiet_step ((with_reducible exact (m3 _ _).out)) | quiet_step (with_reducible exact (m3 _ _).out))
          refine wpQuiet_nil ?_
          intro w7 hw'
          have hb' := Lib.hid (regrown_below hw')
          clear hw' m3 r0 r1 r2 r3 r4 s0 s1 s2 s3 s4 LA LB
          go_wp2_with fail
          go_ret
          have HF := HF.out
          rw [HSM.out] at HF
          exact ⟨ret_bool HF.symm, below_new (below_new (HB.out.trans (hb'.out.mono HB.out.size)))⟩
        · have HF := Lib.hid (Pr.sames_take hp hq HS0 hs)
          rw [hs] at CC
          have m3 := fun dd os => Lib.hid (Calls.regrown_of (CC dd os))
          clear hb hV hV' L0 M0 HS0 hs hp hq CC hbw
          go_wp2_with fail
          refine wp_region_quiet_below (by kernel_rfl) (by kernel_rfl) ?_
          repeat (first | go_big_quiet_step ((with_reducible exact (m3 _ _).out)) | quiet_step (with_reducible exact (m3 _ _).out))
          refine wpQuiet_nil ?_
          intro w7 hw'
          have hb' := Lib.hid (regrown_below hw')
          clear hw' m3 r0 r1 r2 r3 r4 s0 s1 s2 s3 s4 LA LB
          go_wp2_with fail
          go_roundw
          case rel => exact ⟨k + 1, by omega, by go_num, HF.out, HB.out.trans (hb'.out.mono HB.out.size)⟩
          case measure => simp [intOf]; omega
      · have HB := Lib.hid hb
        clear hb
        have e : k = la := by omega
        have h7 := HS.out
        rw [Pr.take_all l (by rw [HLA.out]; omega), Pr.take_all m (by rw [HLB.out]; omega), HSM.out] at h7
        subst h7
        clear e
        have l1 := G1.out.cell
        have l2 := G2.out.cell
        have z1 := G1.out.lt
        have z2 := G2.out.lt
        go_wp2_with fail
        go_ret
        exact ⟨rfl, below_new (below_new HB.out)⟩

end Go.Proofs.Ytechmejmlelmmaa
