/- Joined: RefSame, ContIn, LBoth, RefMayK, StM. -/
import Derived.Test.YthbjgfennclidaaGreatJ14
import Derived.Test.YthbjgfennclidaaGreatJ21
import Derived.Test.YthbjgfennclidaaGreatJ15
import Derived.Test.YthbjgfennclidaaGreatJ13
import Derived.Test.YthbjgfennclidaaGreatJ17
import Derived.Laws.MakeOwn
import Derived.Test.YthbjgfennclidaaGreatJ11
import Derived.Test.YthbjgfennclidaaGreatJ10
import Derived.Deep.RegionHeld3
import Derived.Test.YthbjgfennclidaaGreatJ12
/- Whether two filters are the same: the document's answer. -/
namespace Go.Proofs.YthbjgfennclidaaGreat
set_option linter.unusedVariables false
set_option linter.unusedSimpArgs false
set_option maxRecDepth 100000
open Go.RowKit
def RefSameFn (k : Pr) : Prop := ∀ (q : Pr) (v v' : Value) (w : World), LP w k v → LP w q v' →
    Calls Tryz.prog 84 #[.agg #[.int .i64 k.op, .string k.text, .int .i64 k.n, .complex .f64 k.x k.y, v], .agg #[.int .i64 q.op, .string q.text, .int .i64 q.n, .complex .f64 q.x q.y, v']] w fun e w' => e = .returned (.bool (Pr.same k q)) ∧ Below w.heap.size w w'
set_option maxRecDepth 100000 in
set_option maxHeartbeats 4000000 in
theorem refSame_any (p : Pr) : RefSameFn p := by
  induction p using Pr.ind with
  | h op t n x y l ih =>
    intro q v v' w hL hL'
    obtain ⟨op', t', n', x', y', m⟩ := q
    obtain ⟨oa, cap, b, o, V, rfl, _, hl, hc, hn, hcell, hrec⟩ := lies_slice hL
    obtain ⟨ob, cap', b', o', V', rfl, _, hl', hc', hn', hcell', hrec'⟩ := lies_slice hL'
    simp only [Pr.kids_node, Pr.text_node, Pr.op_node, Pr.n_node, Pr.x_node, Pr.y_node] at *
    unfold maxLen at hc hc'
    have HC := Lib.hid hcell
    have HR := Lib.hid hrec
    have HN := Lib.hid hn
    have HC' := Lib.hid hcell'
    have HR' := Lib.hid hrec'
    have HN' := Lib.hid hn'
    have HH := Lib.hid ih
    clear hL hcell hrec hn hL' hcell' hrec' hn' ih
    have f2 : Pr.same (.node op t n x y l) (.node op' t' n' x' y' m) = (decide (op = op') && (decide (t.toList = t'.toList) && (decide (n = n') && ((feq x x' && feq y y') && Pr.sames l m)))) := by simp [Pr.same]
    have HLen := Lib.hid (fun h => Pr.sames_not_len (l := l) (m := m) h)
    rw [f2]
    clear f2
    generalize hs : Pr.sames l m = sm
    have HSM := Lib.hid hs
    clear hs
    rw [HSM.out] at HLen
    generalize hla : l.length = la at *
    generalize hlb : m.length = lb at *
    have HLA := Lib.hid hla
    have HLB := Lib.hid hlb
    clear hla hlb
    by_cases e1 : ¬ op = op'
    · go_enter Tryz.func84, Tryz.ntmps84
      go_wp2_with fail
      go_ret
      exact ⟨ret_bool (by simp [e1]), ((Below.refl _ _).alloc (Nat.le_refl _) _).alloc (by simp) _⟩
    have e1 := Decidable.not_not.1 e1
    by_cases e2 : ¬ t.toList = t'.toList
    · subst e1
      go_enter Tryz.func84, Tryz.ntmps84
      go_wp2_with fail
      go_ret
      exact ⟨ret_bool (by simp [e2]), ((Below.refl _ _).alloc (Nat.le_refl _) _).alloc (by simp) _⟩
    have e2 := Decidable.not_not.1 e2
    by_cases e3 : ¬ n = n'
    · subst e1
      go_enter Tryz.func84, Tryz.ntmps84
      go_wp2_with fail
      go_ret
      exact ⟨ret_bool (by simp [e3]), ((Below.refl _ _).alloc (Nat.le_refl _) _).alloc (by simp) _⟩
    have e3 := Decidable.not_not.1 e3
    subst e1
    subst e3
    by_cases g4 : ¬ (FloatKind.f64.format.order x x' = some .eq)
    · have e4 : feq x x' = false := by simp [feq, g4]
      rw [e4]
      go_enter Tryz.func84, Tryz.ntmps84
      go_wp2_with fail
      go_ret
      exact ⟨ret_bool (by simp), ((Below.refl _ _).alloc (Nat.le_refl _) _).alloc (by simp) _⟩
    have g4 := Decidable.not_not.1 g4
    have e4 : feq x x' = true := by simp [feq, g4]
    rw [e4]
    by_cases g5 : ¬ (FloatKind.f64.format.order y y' = some .eq)
    · have e5 : feq y y' = false := by simp [feq, g5]
      rw [e5]
      go_enter Tryz.func84, Tryz.ntmps84
      go_wp2_with fail
      go_ret
      exact ⟨ret_bool (by simp), ((Below.refl _ _).alloc (Nat.le_refl _) _).alloc (by simp) _⟩
    have g5 := Decidable.not_not.1 g5
    have e5 : feq y y' = true := by simp [feq, g5]
    rw [e5]
    by_cases e6 : ¬ la = lb
    · have hz := HLen.out e6
      subst hz
      go_enter Tryz.func84, Tryz.ntmps84
      go_wp2_with fail
      go_ret
      exact ⟨ret_bool (by simp), ((Below.refl _ _).alloc (Nat.le_refl _) _).alloc (by simp) _⟩
    have e6 := Decidable.not_not.1 e6
    subst e6
    rw [decide_eq_true rfl, decide_eq_true e2, decide_eq_true rfl, Bool.true_and, Bool.true_and, Bool.true_and, Bool.true_and, Bool.true_and]
    go_enter Tryz.func84, Tryz.ntmps84
    go_wp2_with fail
    go_loopw [5] (fun i wr => EqRel l m la ((w.alloc (.cells #[.int .i64 op, .string t, .int .i64 n, .complex .f64 x y, .slice oa la cap] 44)).alloc (.cells #[.int .i64 op, .string t', .int .i64 n, .complex .f64 x' y', .slice ob la cap'] 44)) i wr) (fun i _ => la - (intOf i).toNat)
    case atStart => exact ⟨0, Nat.zero_le _, rfl, by simp [Hid, Pr.sames], Below.refl _ _⟩
    case round =>
      obtain ⟨k, hk, rfl, HS, hb⟩ := hrel
      have G1 := Lib.hid (((Has.new w #[.int .i64 op, .string t, .int .i64 n, .complex .f64 x y, .slice oa la cap] 44).alloc (.cells #[.int .i64 op, .string t', .int .i64 n, .complex .f64 x' y', .slice ob la cap'] 44)).below hb (by simp; omega))
      have G2 := Lib.hid ((Own.newAt (w.alloc (.cells #[.int .i64 op, .string t, .int .i64 n, .complex .f64 x y, .slice oa la cap] 44)) #[.int .i64 op, .string t', .int .i64 n, .complex .f64 x' y', .slice ob la cap'] 44 (b := w.heap.size + 1) (by simp)).has.below hb (by simp))
      by_cases hlt : k < la
      · obtain ⟨p, hp⟩ : ∃ p, l[k]? = some p := ⟨_, List.getElem?_eq_getElem (by rw [HLA.out]; exact hlt)⟩
        obtain ⟨q, hq⟩ : ∃ q, m[k]? = some q := ⟨_, List.getElem?_eq_getElem (by rw [HLB.out]; exact hlt)⟩
        obtain ⟨rfl, hB⟩ := HN.out (by omega)
        obtain ⟨rfl, hB'⟩ := HN'.out (by omega)
        obtain ⟨oq, cq, hV⟩ := lies_val (HR.out k p hp)
        obtain ⟨oq', cq', hV'⟩ := lies_val (HR'.out k q hq)
        have hbw : Below w.heap.size w wr := below_new (below_new hb)
        obtain ⟨c0, c1, c2, c3, c4⟩ := pc_cells (w := wr) (fun j u hu => (hbw.cell (p := ⟨b, o + k * 5 + j, none⟩) hB).trans (HC.out k p hp j u hu))
        obtain ⟨d0, d1, d2, d3, d4⟩ := pc_cells (w := wr) (fun j u hu => (hbw.cell (p := ⟨b', o' + k * 5 + j, none⟩) hB').trans (HC'.out k q hq j u hu))
        have L0 := (HR.out k p hp).later hbw (Nat.le_refl _)
        have M0 := (HR'.out k q hq).later hbw (Nat.le_refl _)
        rw [hV] at c4 L0
        rw [hV'] at d4 M0
        have CC := fun dd os => HH.out p (List.mem_of_getElem? hp) q (.slice oq p.kids.length cq) (.slice oq' q.kids.length cq') (Sort.grow (redrawn wr dd) os) (L0.later (below_regrown _ _ _) (Nat.le_refl _)) (M0.later (below_regrown _ _ _) (Nat.le_refl _))
        have HB := Lib.hid hb
        have HS0 := HS.out
        have r0 := fun dd os => cell_regrown c0 dd os
        have r1 := fun dd os => cell_regrown c1 dd os
        have r2 := fun dd os => cell_regrown c2 dd os
        have r3 := fun dd os => cell_regrown c3 dd os
        have r4 := fun dd os => cell_regrown c4 dd os
        have s0 := fun dd os => cell_regrown d0 dd os
        have s1 := fun dd os => cell_regrown d1 dd os
        have s2 := fun dd os => cell_regrown d2 dd os
        have s3 := fun dd os => cell_regrown d3 dd os
        have s4 := fun dd os => cell_regrown d4 dd os
        have LA := fun dd os o => G1.out.regrown dd os o
        have LB := fun dd os o => G2.out.regrown dd os o
        have l1 := G1.out.cell
        have l2 := G2.out.cell
        cases hs : Pr.same p q
        · have HF := Lib.hid (Pr.sames_at hp hq hs)
          rw [hs] at CC
          have m3 := fun dd os => Lib.hid (Calls.regrown_of (CC dd os))
          clear hb hV hV' L0 M0 HS0 hs hp hq CC hbw
          go_wp2_with fail
          refine wp_region_quiet_below (by kernel_rfl) (by kernel_rfl) ?_
          repeat (first | go_big_quiet_step ((with_reducible exact (m3 _ _).out)) | quiet_step (with_reducible exact (m3 _ _).out))
          refine wpQuiet_nil ?_
          intro w7 hw'
          have hb' := Lib.hid (regrown_below hw')
          clear hw' m3 r0 r1 r2 r3 r4 s0 s1 s2 s3 s4 LA LB
          go_wp2_with fail
          go_ret
          have HF := HF.out
          rw [HSM.out] at HF
          exact ⟨ret_bool HF.symm, below_new (below_new (HB.out.trans (hb'.out.mono HB.out.size)))⟩
        · have HF := Lib.hid (Pr.sames_take hp hq HS0 hs)
          rw [hs] at CC
          have m3 := fun dd os => Lib.hid (Calls.regrown_of (CC dd os))
          clear hb hV hV' L0 M0 HS0 hs hp hq CC hbw
          go_wp2_with fail
          refine wp_region_quiet_below (by kernel_rfl) (by kernel_rfl) ?_
          repeat (first | go_big_quiet_step ((with_reducible exact (m3 _ _).out)) | quiet_step (with_reducible exact (m3 _ _).out))
          refine wpQuiet_nil ?_
          intro w7 hw'
          have hb' := Lib.hid (regrown_below hw')
          clear hw' m3 r0 r1 r2 r3 r4 s0 s1 s2 s3 s4 LA LB
          go_wp2_with fail
          go_roundw
          case rel => exact ⟨k + 1, by omega, by go_num, HF.out, HB.out.trans (hb'.out.mono HB.out.size)⟩
          case measure => simp [intOf]; omega
      · have HB := Lib.hid hb
        clear hb
        have e : k = la := by omega
        have h7 := HS.out
        rw [Pr.take_all l (by rw [HLA.out]; omega), Pr.take_all m (by rw [HLB.out]; omega), HSM.out] at h7
        subst h7
        clear e
        have l1 := G1.out.cell
        have l2 := G2.out.cell
        have z1 := G1.out.lt
        have z2 := G2.out.lt
        go_wp2_with fail
        go_ret
        exact ⟨rfl, below_new (below_new HB.out)⟩
end Go.Proofs.YthbjgfennclidaaGreat
/- contain.In: the walk. -/
namespace Go.Proofs.YthbjgfennclidaaGreat
set_option linter.unusedVariables false
set_option linter.unusedSimpArgs false
set_option maxRecDepth 100000
open Go.RowKit
set_option maxRecDepth 100000 in
set_option maxHeartbeats 4000000 in
theorem contIn_calls (p q : Pr) (v v' : Value) (w : World) (hL : LP w p v) (hM : LP w q v') (_h1 : p.size ≤ 1000) (_h2 : q.size ≤ 1000) :
    Calls Tryz.prog 116 #[.agg #[.int .i64 p.op, .string p.text, .int .i64 p.n, .complex .f64 p.x p.y, v], .agg #[.int .i64 q.op, .string q.text, .int .i64 q.n, .complex .f64 q.x q.y, v']] w fun e w' => e = .returned (.bool (Pr.inB p q)) ∧ Below w.heap.size w w' := by
  clear _h1 _h2
  obtain ⟨oa, cap, rfl⟩ := lies_val hL
  obtain ⟨oa', cap', rfl⟩ := lies_val hM
  generalize p.kids.length = len at *
  generalize q.kids.length = len' at *
  have hL2 := (hL.atAlloc (.cells (pa p (.slice oa len cap)) 44)).atAlloc (.cells (pa q (.slice oa' len' cap')) 44)
  have hM2 := (hM.atAlloc (.cells (pa p (.slice oa len cap)) 44)).atAlloc (.cells (pa q (.slice oa' len' cap')) 44)
  have G1 := Lib.hid ((Has.new w (pa p (.slice oa len cap)) 44).alloc (.cells (pa q (.slice oa' len' cap')) 44))
  have G2 := Lib.hid ((Own.newAt (w.alloc (.cells (pa p (.slice oa len cap)) 44)) (pa q (.slice oa' len' cap')) 44 (b := w.heap.size + 1) (by simp)).has)
  have B0 := Lib.hid (Below.refl ((w.alloc (.cells (pa p (.slice oa len cap)) 44)).alloc (.cells (pa q (.slice oa' len' cap')) 44)).heap.size ((w.alloc (.cells (pa p (.slice oa len cap)) 44)).alloc (.cells (pa q (.slice oa' len' cap')) 44)))
  generalize hw2 : ((w.alloc (.cells (pa p (.slice oa len cap)) 44)).alloc (.cells (pa q (.slice oa' len' cap')) 44)) = w2 at *
  have CP := fun (w' : World) (hb : Below w2.heap.size w2 w') => Lib.hid (predMay_calls p _ w' (hL2.later hb (Nat.le_refl _)))
  have CQ := fun (w' : World) (hb : Below w2.heap.size w2 w') => Lib.hid (predMay_calls q _ w' (hM2.later hb (Nat.le_refl _)))
  have cs := fun (h1 : p.mayB = true) (h2 : q.mayB = true) (w' : World) (hb : Below w2.heap.size w2 w') => Lib.hid (cseen_calls p q (predMay_parts h1).2.2 (predMay_parts h2).2.2 _ _ w' (hL2.later hb (Nat.le_refl _)) (hM2.later hb (Nat.le_refl _)))
  subst hw2
  have HCS := Lib.hid cs
  clear cs
  unfold Pr.inB
  clear hL hM hL2 hM2
  generalize Pr.seenB p q = x3 at *
  generalize p.mayB = x1 at *
  generalize q.mayB = x2 at *
  obtain ⟨op, t, n, x, y, kids⟩ := p
  obtain ⟨op', t', n', x', y', kids'⟩ := q
  simp only [pa, pv, Pr.text_node, Pr.op_node, Pr.n_node, Pr.x_node, Pr.y_node] at *
  cases x1
  · clear HCS CQ
    go_enter Tryz.func116, Tryz.ntmps116
    go_wp2_with fail
    refine (CP _ B0.out).out.mono ?_; rintro e w3 ⟨rfl, hb0⟩
    go_wp2_with fail
    go_ret
    exact ⟨ret_bool (by simp), below_new (below_new hb0)⟩
  · cases x2
    · clear HCS
      go_enter Tryz.func116, Tryz.ntmps116
      go_wp2_with fail
      refine (CP _ B0.out).out.mono ?_; rintro e w3 ⟨rfl, hb0⟩
      have B1 := Lib.hid (B0.out.trans (hb0.mono B0.out.size))
      have G2 := Lib.hid (G2.out.below hb0 G2.out.lt)
      have G1 := Lib.hid (G1.out.below hb0 G1.out.lt)
      clear hb0
      have m0 := G2.out.cell
      have u0 := G2.out.lt
      go_wp2_with fail
      refine (CQ _ B1.out).out.mono ?_; rintro e w4 ⟨rfl, hb1⟩
      go_wp2_with fail
      go_ret
      exact ⟨ret_bool (by simp), below_new (below_new (B1.out.trans (hb1.mono B1.out.size)))⟩
    · have CS := HCS.out rfl rfl
      clear HCS
      go_enter Tryz.func116, Tryz.ntmps116
      go_wp2_with fail
      refine (CP _ B0.out).out.mono ?_; rintro e w3 ⟨rfl, hb0⟩
      have B1 := Lib.hid (B0.out.trans (hb0.mono B0.out.size))
      have G2 := Lib.hid (G2.out.below hb0 G2.out.lt)
      have G1 := Lib.hid (G1.out.below hb0 G1.out.lt)
      clear hb0
      have m0 := G2.out.cell
      have u0 := G2.out.lt
      go_wp2_with fail
      refine (CQ _ B1.out).out.mono ?_; rintro e w4 ⟨rfl, hb1⟩
      have B2 := Lib.hid (B1.out.trans (hb1.mono B1.out.size))
      have G2 := Lib.hid (G2.out.below hb1 G2.out.lt)
      have G1 := Lib.hid (G1.out.below hb1 G1.out.lt)
      clear hb1 m0 u0
      have m1 := G2.out.cell
      have u1 := G2.out.lt
      have l1 := G1.out.cell
      have z1 := G1.out.lt
      go_wp2_with fail
      refine (CS _ B2.out).out.mono ?_; rintro e w5 ⟨rfl, hb2⟩
      go_wp2_with fail
      go_ret
      exact ⟨ret_bool (by simp), below_new (below_new (B2.out.trans (hb2.mono B2.out.size)))⟩
end Go.Proofs.YthbjgfennclidaaGreat
/- The code's list.Both. Walked. -/
namespace Go.Proofs.YthbjgfennclidaaGreat
set_option linter.unusedVariables false
set_option linter.unusedSimpArgs false
set_option maxRecDepth 100000
open Go.RowKit
def lenV : Value → Nat
  | .slice _ n _ => n
  | _ => 0
theorem cmpV_cases (st r c st' r' c' : Int) : cmpV st r c st' r' c' = -1 ∨ cmpV st r c st' r' c' = 0 ∨ cmpV st r c st' r' c' = 1 := by
  unfold cmpV orI cmpI
  repeat' split
  all_goals simp
theorem beh_pos (a b : Itm) : decide (0 < cmpT a b) = behT a b := by
  unfold behT cmpT
  rcases cmpV_cases a.st a.r a.c b.st b.r b.c with h | h | h <;> rw [h] <;> decide
theorem cmpT_calls (a b : Itm) (w : World) :
    Calls Tryz.prog 110 #[iV a, iV b] w fun e w' => e = .returned (.int .i64 (cmpT a b)) ∧ Below w.heap.size w w' :=
  compare_calls a.id a.r a.c a.st a.kd a.num a.x a.y a.d b.id b.r b.c b.st b.kd b.num b.x b.y b.d w
abbrev At8 (w : World) (b o : Nat) (i : Itm) : Prop :=
  w.cell? ⟨b, o, none⟩ = some (.string i.id) ∧ w.cell? ⟨b, o + 1, none⟩ = some (.int .i64 i.r) ∧ w.cell? ⟨b, o + 2, none⟩ = some (.int .i64 i.c) ∧ w.cell? ⟨b, o + 3, none⟩ = some (.int .i64 i.st) ∧ w.cell? ⟨b, o + 4, none⟩ = some (.string i.kd) ∧ w.cell? ⟨b, o + 5, none⟩ = some (.int .i64 i.num) ∧ w.cell? ⟨b, o + 6, none⟩ = some (.complex .f64 i.x i.y) ∧ w.cell? ⟨b, o + 7, none⟩ = some (.bool i.d)
theorem At8.later {w w' : World} {b o : Nat} {i : Itm} (h : At8 w b o i) (hlt : b < w.heap.size) (hb : Below w.heap.size w w') : At8 w' b o i := by
  obtain ⟨h0, h1, h2, h3, h4, h5, h6, h7⟩ := h
  have e : ∀ j, w'.cell? ⟨b, j, none⟩ = w.cell? ⟨b, j, none⟩ := fun j => hb.cell (p := ⟨b, j, none⟩) hlt
  exact ⟨(e _).trans h0, (e _).trans h1, (e _).trans h2, (e _).trans h3, (e _).trans h4, (e _).trans h5, (e _).trans h6, (e _).trans h7⟩
theorem row_head {w : World} {i : Itm} {l : List Itm} {v : Value} (h : Row 8 ic w (i :: l) v) : ∃ b o cap, v = .slice (some ⟨b, o, none⟩) (l.length + 1) cap ∧ l.length + 1 ≤ cap ∧ cap ≤ maxLen ∧ b < w.heap.size ∧ At8 w b o i ∧ Row 8 ic w (i :: l) (.slice (some ⟨b, o, none⟩) (l.length + 1) cap) := by
  have h' := h
  obtain ⟨oa, cap, b, o, rfl, h⟩ := h
  obtain ⟨rfl, hb⟩ := h.at0 (by simp)
  refine ⟨b, o, cap, rfl, h.len, h.max, hb, ?_, h'⟩
  have := ic_cells (w := w) (fun j u hu => h.cell 0 i rfl j u hu)
  simpa using this
theorem row_tail {w : World} {i : Itm} {l : List Itm} {b o n cap : Nat} (h : Row 8 ic w (i :: l) (.slice (some ⟨b, o, none⟩) n cap)) (hn : n = l.length + 1) : Row 8 ic w l (.slice (some ⟨b, o + 8, none⟩) l.length (cap - 1)) := by
  have := h.slice 1 (by simp)
  subst hn
  simpa [add_none] using this
theorem row_last {w : World} {i : Itm} {l : List Itm} {b o n cap : Nat} (h : Row 8 ic w (i :: l) (.slice (some ⟨b, o, none⟩) n cap)) (hn : n = l.length + 1) (hc : cap = 1) : Row 8 ic w l (.slice (some ⟨b, o, none⟩) l.length 0) := by
  subst hn hc
  have e := h.none
  have : l.length = 0 := by
    obtain ⟨_, _, _, _, e2, h2⟩ := h
    cases e2
    have := h2.len; simp at this; rw [this]; rfl
  rw [this]
  simpa using e
structure BothI (f : Itm → Itm → Bool) (w : World) (R la lb D : List Itm) (wr : World) (v : Value) : Prop where
  own : OwnI wr w.heap.size D v
  eq : D ++ mrgI f la lb = R
  len : la.length + lb.length + D.length ≤ 2000
  bel : Below w.heap.size w wr
def BothLR (f : Itm → Itm → Bool) (w : World) (R : List Itm) (a b v : Value) (wr : World) : Prop :=
  ∃ la lb D : List Itm, Row 8 ic w la a ∧ Row 8 ic w lb b ∧ Hid (BothI f w R la lb D wr v)
theorem row_rest {w : World} {i : Itm} {l : List Itm} {b o n cap : Nat} (h : Row 8 ic w (i :: l) (.slice (some ⟨b, o, none⟩) n cap)) (hn : n = l.length + 1) : Row 8 ic w l (.slice (if cap = 1 then some ⟨b, o, none⟩ else some ⟨b, o + 8, none⟩) l.length (cap - 1)) := by
  split
  · rename_i hc
    have := row_last h hn hc
    rw [show cap - 1 = 0 by omega]
    exact this
  · exact row_tail h hn
theorem bothI_next {f : Itm → Itm → Bool} {w w1 w2 : World} {R la lb la0 lb0 D : List Itm} {v v1 : Value} {Z : Itm} (hI : BothI f w R la0 lb0 D w1 v) (ho : OwnI w2 w.heap.size (D ++ [Z]) v1) (hb : Below w.heap.size w w2) (he : mrgI f la0 lb0 = Z :: mrgI f la lb) (hl : la.length + lb.length + 1 ≤ la0.length + lb0.length) : BothI f w R la lb (D ++ [Z]) w2 v1 :=
  ⟨ho, by rw [List.append_assoc, ← hI.eq, he]; rfl, by have := hI.len; rw [List.length_append]; simp only [List.length_cons, List.length_nil]; omega, hb⟩
set_option maxRecDepth 100000 in
set_option maxHeartbeats 16000000 in
theorem listBoth_calls (l m : List Itm) (v v' : Value) (w : World) (hR : Row 8 ic w l v) (hM : Row 8 ic w m v') (hr : RiseI l) (hm : RiseI m) (h1 : l.length ≤ 1000) (h2 : m.length ≤ 1000) :
    Calls Tryz.prog 56 #[v, v'] w fun e w' => ∃ v2, e = .returned v2 ∧ Row 8 ic w' (bothI behT l m) v2 ∧ Below w.heap.size w w' := by
  obtain ⟨i0, hi, hz0, hz1, hz2⟩ := info_parts info_item
  have CS := fun a b w => Lib.hid (cmpS_calls a b w)
  have CT := fun a b w => Lib.hid (cmpT_calls a b w)
  have HA := Lib.hid hR
  have HB := Lib.hid hM
  have HO := Lib.hid (show ∀ i ∈ mrgI behT l m, i.id.size ≤ maxLen ∧ i.kd.size ≤ maxLen from fun i hi => by
    rcases mrg_mem (Nat.le_refl _) hi with h | h
    · exact hR.oks i h
    · exact hM.oks i h)
  rw [← mrg_both hr hm]
  obtain ⟨oa, cap, rfl⟩ := hR.val
  obtain ⟨oa', cap', rfl⟩ := hM.val
  obtain ⟨w', hrun, hown, hgr⟩ := run_makeSlice_owned (P := Tryz.prog) w w.heap.size 50 68 i0 _ 8 Tryz.underlying50 hi hz0 hz1 .i64 .i64 (l.length + m.length) (by omega) (by rw [hz2]; omega) (by unfold maxLen; omega) (Nat.le_refl _)
  rw [Int.natCast_add] at hrun
  have HI := Lib.hid (show BothI behT w (mrgI behT l m) l m [] w' _ from ⟨hown, rfl, by simp; omega, (Below.refl _ _).grown hgr (Nat.le_refl _) (fun k hk => by cases hk)⟩)
  clear hown hgr hR hM hr hm
  generalize mrgI behT l m = R at *
  go_enter Tryz.func56, Tryz.ntmps56
  go_wp2_with fail
  go_loopw [0, 1, 5] (fun a b v wr => BothLR behT w R a b v wr) (fun a b _ _ => lenV a + lenV b)
  case atStart => exact ⟨l, m, [], HA.out, HB.out, HI.out⟩
  case round =>
    clear HI HA HB hrun
    obtain ⟨la, lb, D, ha, hb, HI⟩ := hrel
    obtain ⟨ov, cv, e⟩ := HI.out.own.len
    subst e
    by_cases hex : la = [] ∨ lb = []
    · have E := Lib.hid (show (D ++ la) ++ lb = R by
        have := HI.out.eq
        rcases hex with h | h
        · subst h; rw [mrg_nil_l] at this; simpa using this
        · subst h; rw [mrg_nil_r] at this; simpa using this)
      obtain ⟨oA, cA, rfl⟩ := ha.val
      obtain ⟨oB, cB, rfl⟩ := hb.val
      have HL := Lib.hid HI.out.len
      have RA := Lib.hid ha
      have RB := Lib.hid hb
      obtain ⟨DE, hDE⟩ : ∃ DE, DE = D ++ la := ⟨_, rfl⟩
      have HDL := Lib.hid (show DE.length + lb.length ≤ 2000 by rw [hDE, List.length_append]; have := HL.out; omega)
      have HAP := Lib.hid (fun ty => run_append_items ty HI.out.own (RA.out.later HI.out.bel) (by have := HL.out; omega) HI.out.bel.size)
      rw [← hDE] at HAP E
      clear hDE HL
      have hlen : la.length = 0 ∨ lb.length = 0 := by
        rcases hex with h | h
        · subst h; exact .inl rfl
        · subst h; exact .inr rfl
      clear hex ha hb
      generalize hna : la.length = na at *
      generalize hnb : lb.length = nb at *
      have HNB := Lib.hid hnb
      clear hna hnb
      by_cases hz : na = 0
      · subst hz
        clear hlen
        go_wp2_with (first
          | (at_builtin; obtain ⟨v1, w1, hrun, hown, hgr⟩ := HAP.out _; refine Lib.wpList_append_run _ rfl _ _ _ _ rfl _ _ rfl rfl _ _ hrun ?_; have B1 := Lib.hid (below_push HI.out.own HI.out.bel (Nat.le_refl _) hgr HI.out.bel.size); have HBP := Lib.hid (fun ty => run_append_items ty hown (RB.out.later B1.out) (by have := HDL.out; have := HNB.out; omega) B1.out.size); have HW := Lib.hid hown; obtain ⟨o1, c1, rfl⟩ := hown.len; clear HAP hgr hown)
          | (at_builtin; obtain ⟨v2, w2, hrun2, hown2, hgr2⟩ := HBP.out _; refine Lib.wpList_append_run _ rfl _ _ _ _ rfl _ _ rfl rfl _ _ hrun2 ?_))
        go_ret
        exact ⟨_, rfl, by rw [E.out] at hown2; exact hown2.row HO.out, below_push HW.out B1.out (Nat.le_refl _) hgr2 B1.out.size⟩
      · have hz2 : nb = 0 := by omega
        subst hz2
        have g1 : (0 : Int) < (na : Int) := by omega
        clear hlen
        go_wp2_with (first
          | (at_builtin; obtain ⟨v1, w1, hrun, hown, hgr⟩ := HAP.out _; refine Lib.wpList_append_run _ rfl _ _ _ _ rfl _ _ rfl rfl _ _ hrun ?_; have B1 := Lib.hid (below_push HI.out.own HI.out.bel (Nat.le_refl _) hgr HI.out.bel.size); have HBP := Lib.hid (fun ty => run_append_items ty hown (RB.out.later B1.out) (by have := HDL.out; have := HNB.out; omega) B1.out.size); have HW := Lib.hid hown; obtain ⟨o1, c1, rfl⟩ := hown.len; clear HAP hgr hown)
          | (at_builtin; obtain ⟨v2, w2, hrun2, hown2, hgr2⟩ := HBP.out _; refine Lib.wpList_append_run _ rfl _ _ _ _ rfl _ _ rfl rfl _ _ hrun2 ?_))
        go_ret
        exact ⟨_, rfl, by rw [E.out] at hown2; exact hown2.row HO.out, below_push HW.out B1.out (Nat.le_refl _) hgr2 B1.out.size⟩
    · obtain ⟨x, la, rfl⟩ : ∃ x l', la = x :: l' := by
        cases la with
        | nil => exact absurd (.inl rfl) hex
        | cons x l' => exact ⟨x, l', rfl⟩
      obtain ⟨y, lb, rfl⟩ : ∃ y l', lb = y :: l' := by
        cases lb with
        | nil => exact absurd (.inr rfl) hex
        | cons y l' => exact ⟨y, l', rfl⟩
      clear hex
      have OKx := Lib.hid (ha.oks x (by simp))
      have OKy := Lib.hid (hb.oks y (by simp))
      obtain ⟨ba, oA, ca, rfl, ka1, ka2, ka3, ka4, ka5⟩ := row_head ha
      obtain ⟨bb, oB, cb, rfl, kb1, kb2, kb3, kb4, kb5⟩ := row_head hb
      have RA := Lib.hid ka5
      have RB := Lib.hid kb5
      clear ha hb ka5 kb5
      have bel := HI.out.bel
      have za := Nat.lt_of_lt_of_le ka3 bel.size
      have zb := Nat.lt_of_lt_of_le kb3 bel.size
      have KA := Lib.hid (ka4.later ka3 bel)
      have KB := Lib.hid (kb4.later kb3 bel)
      clear bel ka4 kb4
      go_upto_region 3 with fail
      go_cut [6, 7] (fun s6 s7 wx => ∃ bx bz, s6 = .pointer (some ⟨bx, 0, none⟩) ∧ s7 = .pointer (some ⟨bz, 0, none⟩) ∧ wr.heap.size ≤ bx ∧ bx ≠ bz ∧ Hid (Own wx bx (iA x) 68 ∧ Own wx bz (iA y) 68 ∧ Below wr.heap.size wr wx))
      case first =>
        go_region_held3 (fun w' => At8 w' ba oA x ∧ At8 w' bb oB y) (first | with_reducible exact ⟨KA.out, KB.out⟩ | (refine ⟨At8.later KA.out za ?_, At8.later KB.out zb ?_⟩ <;> (repeat (first | exact Below.refl _ _ | refine Below.drew ?_ | refine Below.alloc ?_ (by simp) _ | refine Below.setCell ?_ (by simp) _)))) (fail)
        all_goals (go_wp2_with fail)
        all_goals go_meet
        · exact ⟨_, _, rfl, rfl, Nat.le_refl _, by omega, ((Own.new wr (iA x) 68).alloc _).drew, (Own.newAt (wr.alloc (.cells (iA x) 68)) (iA y) 68 (by simp)).drew, (((Below.refl _ _).alloc (Nat.le_refl _) _).alloc (by simp) _).drew⟩
        · exact ⟨_, _, rfl, rfl, by omega, by omega, (Own.newAt (wr.alloc (.cells (iA y) 68)) (iA x) 68 (by simp)).drew, ((Own.new wr (iA y) 68).alloc _).drew, (((Below.refl _ _).alloc (Nat.le_refl _) _).alloc (by simp) _).drew⟩
      case rest =>
        clear KA KB
        obtain ⟨bx, bz, rfl, rfl, KX, KN, HC⟩ := hcut
        generalize wc = wq at *
        have OX := Lib.hid HC.out.1
        have OY := Lib.hid HC.out.2.1
        have BW := Lib.hid HC.out.2.2
        have HNE := Lib.hid KN
        have lX := OX.out.cell
        have zX := OX.out.lt
        have lY := OY.out.cell
        have zY := OY.out.lt
        have fX := OX.out.free
        have gA : (1 : Int) ≤ ((la.length + 1 : Nat) : Int) := by omega
        have gB : (1 : Int) ≤ ((lb.length + 1 : Nat) : Int) := by omega
        clear HC KN
        rcases ls_tri x.id y.id with h | h | h
        · have C := Lib.hid (show cmpS x.id y.id = -1 by unfold cmpS; rw [if_pos h])
          have EQ := Lib.hid (show mrgI behT (x :: la) (y :: lb) = x :: mrgI behT la (y :: lb) by rw [mrg_cons, if_pos h])
          clear h
          go_upto_region 11 with (go_at_call 109; refine (CS _ _ _).out.mono ?_; rintro e w5 ⟨rfl, rfl⟩; rw [C.out])
          all_goals
            have HI2 := Lib.hid (HI.out.own.later BW.out)
            have BEL2 := Lib.hid (HI.out.bel.trans (BW.out.mono HI.out.bel.size))
            have OQ := Lib.hid (HI2.out.alloc (.cells (iA x) 68))
            have BQ := Lib.hid (BEL2.out.alloc BEL2.out.size (.cells (iA x) 68))
            have HAP := Lib.hid (fun ty => run_append_items ty OQ.out (row_oneI wq x 68 OKx.out) (by have := HI.out.len; simp only [List.length_cons, List.length_nil] at *; omega) BQ.out.size)
            go_wp2_with (at_builtin; obtain ⟨v1, w1, hrun, hown, hgr⟩ := HAP.out _; refine Lib.wpList_append_run _ rfl _ _ _ _ rfl _ _ rfl rfl _ _ hrun ?_)
            have HB2 := Lib.hid (below_push OQ.out BQ.out (Nat.le_refl _) hgr BQ.out.size)
            go_roundw
            case rel => exact ⟨la, y :: lb, D ++ [x], by exact row_rest RA.out rfl, RB.out, Lib.hid (bothI_next HI.out hown HB2.out EQ.out (by simp only [List.length_cons]; omega))⟩
            case measure => simp [lenV]
        · have C := Lib.hid (show cmpS x.id y.id = 0 by unfold cmpS; rw [h, ls_irr]; rfl)
          have hm2 : mrgI behT (x :: la) (y :: lb) = (if behT y x = true then y else x) :: mrgI behT la lb := by rw [mrg_cons, h, ls_irr]; simp
          cases hbh : behT y x
          · have EQ := Lib.hid (show mrgI behT (x :: la) (y :: lb) = x :: mrgI behT la lb by rw [hm2, hbh]; rfl)
            have g9 : decide (0 < cmpT y x) = false := by rw [beh_pos]; exact hbh
            clear h hm2 hbh
            go_upto_region 11 with (first | (go_at_call 109; refine (CS _ _ _).out.mono ?_; rintro e w5 ⟨rfl, rfl⟩; rw [C.out]) | (go_at_call 110; refine (CT _ _ _).out.mono ?_; rintro e w6 ⟨rfl, hb6⟩; replace OX := Lib.hid (OX.out.later hb6); replace OY := Lib.hid (OY.out.later hb6); replace BW := Lib.hid (BW.out.trans (hb6.mono BW.out.size)); have l6 := OX.out.cell; have z6 := OX.out.lt; clear hb6))
            all_goals
              have HI2 := Lib.hid (HI.out.own.later BW.out)
              have BEL2 := Lib.hid (HI.out.bel.trans (BW.out.mono HI.out.bel.size))
              have OQ := Lib.hid (HI2.out.alloc (.cells (iA x) 68))
              have BQ := Lib.hid (BEL2.out.alloc BEL2.out.size (.cells (iA x) 68))
              have HAP := Lib.hid (fun ty => run_append_items ty OQ.out (row_oneI w6 x 68 OKx.out) (by have := HI.out.len; simp only [List.length_cons, List.length_nil] at *; omega) BQ.out.size)
              go_wp2_with (at_builtin; obtain ⟨v1, w1, hrun, hown, hgr⟩ := HAP.out _; refine Lib.wpList_append_run _ rfl _ _ _ _ rfl _ _ rfl rfl _ _ hrun ?_)
              have HB2 := Lib.hid (below_push OQ.out BQ.out (Nat.le_refl _) hgr BQ.out.size)
              go_roundw
              case rel => exact ⟨la, lb, D ++ [x], by exact row_rest RA.out rfl, by exact row_rest RB.out rfl, Lib.hid (bothI_next HI.out hown HB2.out EQ.out (by simp only [List.length_cons]; omega))⟩
              case measure => simp [lenV]; omega
          · have EQ := Lib.hid (show mrgI behT (x :: la) (y :: lb) = y :: mrgI behT la lb by rw [hm2, hbh]; rfl)
            have g9 : decide (0 < cmpT y x) = true := by rw [beh_pos]; exact hbh
            clear h hm2 hbh
            go_upto_region 11 with (first | (go_at_call 109; refine (CS _ _ _).out.mono ?_; rintro e w5 ⟨rfl, rfl⟩; rw [C.out]) | (go_at_call 110; refine (CT _ _ _).out.mono ?_; rintro e w6 ⟨rfl, hb6⟩; replace OX := Lib.hid (OX.out.later hb6); replace OY := Lib.hid (OY.out.later hb6); replace BW := Lib.hid (BW.out.trans (hb6.mono BW.out.size)); have l6 := OX.out.cell; have z6 := OX.out.lt; have f6 := OX.out.free; have l7 := OY.out.cell; have z7 := OY.out.lt; clear hb6))
            all_goals
              have key := And.intro (st8_own OX.out (.string y.id) (.int .i64 y.r) (.int .i64 y.c) (.int .i64 y.st) (.string y.kd) (.int .i64 y.num) (.complex .f64 y.x y.y) (.bool y.d)) (st8_below (b := bx) BW.out KX (.string y.id) (.int .i64 y.r) (.int .i64 y.c) (.int .i64 y.st) (.string y.kd) (.int .i64 y.num) (.complex .f64 y.x y.y) (.bool y.d))
              unfold st8 at key
              revert key
              generalize World.setCell (World.setCell (World.setCell (World.setCell (World.setCell (World.setCell (World.setCell (World.setCell _ _ _) _ _) _ _) _ _) _ _) _ _) _ _) _ _ = WW
              rintro ⟨OX3, bw3⟩
              have HI2 := Lib.hid (HI.out.own.later bw3)
              have BEL2 := Lib.hid (HI.out.bel.trans (bw3.mono HI.out.bel.size))
              have l3 := OX3.cell
              have z3 := OX3.lt
              clear bw3 OX3
              have OQ := Lib.hid (HI2.out.alloc (.cells (iA y) 68))
              have BQ := Lib.hid (BEL2.out.alloc BEL2.out.size (.cells (iA y) 68))
              have HAP := Lib.hid (fun ty => run_append_items ty OQ.out (row_oneI WW y 68 OKy.out) (by have := HI.out.len; simp only [List.length_cons, List.length_nil] at *; omega) BQ.out.size)
              go_wp2_with (at_builtin; obtain ⟨v1, w1, hrun, hown, hgr⟩ := HAP.out _; refine Lib.wpList_append_run _ rfl _ _ _ _ rfl _ _ rfl rfl _ _ hrun ?_)
              have HB2 := Lib.hid (below_push OQ.out BQ.out (Nat.le_refl _) hgr BQ.out.size)
              go_roundw
              case rel => exact ⟨la, lb, D ++ [y], by exact row_rest RA.out rfl, by exact row_rest RB.out rfl, Lib.hid (bothI_next HI.out hown HB2.out EQ.out (by simp only [List.length_cons]; omega))⟩
              case measure => simp [lenV]; omega
        · have C := Lib.hid (show cmpS x.id y.id = 1 by unfold cmpS; rw [ls_asym h, h]; rfl)
          have EQ := Lib.hid (show mrgI behT (x :: la) (y :: lb) = y :: mrgI behT (x :: la) lb by rw [mrg_cons, ls_asym h, h]; simp)
          clear h
          go_upto_region 11 with (go_at_call 109; refine (CS _ _ _).out.mono ?_; rintro e w5 ⟨rfl, rfl⟩; rw [C.out])
          all_goals
            have key := And.intro (st8_own OX.out (.string y.id) (.int .i64 y.r) (.int .i64 y.c) (.int .i64 y.st) (.string y.kd) (.int .i64 y.num) (.complex .f64 y.x y.y) (.bool y.d)) (st8_below (b := bx) BW.out KX (.string y.id) (.int .i64 y.r) (.int .i64 y.c) (.int .i64 y.st) (.string y.kd) (.int .i64 y.num) (.complex .f64 y.x y.y) (.bool y.d))
            unfold st8 at key
            revert key
            generalize World.setCell (World.setCell (World.setCell (World.setCell (World.setCell (World.setCell (World.setCell (World.setCell _ _ _) _ _) _ _) _ _) _ _) _ _) _ _) _ _ = WW
            rintro ⟨OX3, bw3⟩
            have HI2 := Lib.hid (HI.out.own.later bw3)
            have BEL2 := Lib.hid (HI.out.bel.trans (bw3.mono HI.out.bel.size))
            have l3 := OX3.cell
            have z3 := OX3.lt
            clear bw3 OX3
            have OQ := Lib.hid (HI2.out.alloc (.cells (iA y) 68))
            have BQ := Lib.hid (BEL2.out.alloc BEL2.out.size (.cells (iA y) 68))
            have HAP := Lib.hid (fun ty => run_append_items ty OQ.out (row_oneI WW y 68 OKy.out) (by have := HI.out.len; simp only [List.length_cons, List.length_nil] at *; omega) BQ.out.size)
            go_wp2_with (at_builtin; obtain ⟨v1, w1, hrun, hown, hgr⟩ := HAP.out _; refine Lib.wpList_append_run _ rfl _ _ _ _ rfl _ _ rfl rfl _ _ hrun ?_)
            have HB2 := Lib.hid (below_push OQ.out BQ.out (Nat.le_refl _) hgr BQ.out.size)
            go_roundw
            case rel => exact ⟨x :: la, lb, D ++ [y], RA.out, by exact row_rest RB.out rfl, Lib.hid (bothI_next HI.out hown HB2.out EQ.out (by simp only [List.length_cons]; omega))⟩
            case measure => simp [lenV]
end Go.Proofs.YthbjgfennclidaaGreat
/- What is known: the document's May, walked. -/
namespace Go.Proofs.YthbjgfennclidaaGreat
set_option linter.unusedVariables false
set_option linter.unusedSimpArgs false
set_option maxRecDepth 100000
open Go.RowKit
def mayFr (nm : ByteArray → Bool) (f : Fr) : Bool := mayV f.v && f.ids.all nm
def mayK (nm : ByteArray → Bool) (a : Kn) : Bool := (alikeK a (plainB a) && mayV a.star) && a.l.all (mayFr nm)
structure MkS (w : World) (X : Array Value) (wr : World) : Prop where
  o1 : Has wr w.heap.size X
  bel : Below w.heap.size w wr
theorem MkS.later {w wr w' : World} {X : Array Value} (h : MkS w X wr) (hb : Below wr.heap.size wr w') : MkS w X w' :=
  ⟨h.o1.below hb h.o1.lt, h.bel.trans (hb.mono h.bel.size)⟩
def MkRel (p : Fr → Bool) (l : List Fr) (len : Nat) (X : Array Value) (w : World) (iv : Value) (wr : World) : Prop :=
  ∃ k : Nat, k ≤ len ∧ iv = .int .i64 k ∧ Hid (∀ j f, j < k → l[j]? = some f → p f = true) ∧ Hid (MkS w X wr)
def MkRel2 (p : ByteArray → Bool) (l : List ByteArray) (len : Nat) (X : Array Value) (w : World) (iv : Value) (wr : World) : Prop :=
  ∃ k : Nat, k ≤ len ∧ iv = .int .i64 k ∧ Hid (∀ j f, j < k → l[j]? = some f → p f = true) ∧ Hid (MkS w X wr)
theorem all_of {α : Type} {p : α → Bool} {l : List α} (h : ∀ j f, j < l.length → l[j]? = some f → p f = true) : l.all p = true := by
  rw [List.all_eq_true]
  intro f hf
  obtain ⟨j, hj, e⟩ := List.mem_iff_getElem.1 hf
  exact h j f hj (by rw [List.getElem?_eq_getElem hj, e])
theorem all_not_of {α : Type} {p : α → Bool} {l : List α} {j : Nat} {f : α} (h : l[j]? = some f) (hp : p f = false) : l.all p = false := by
  rw [List.all_eq_false]
  exact ⟨f, List.mem_of_getElem? h, by simp [hp]⟩
set_option maxRecDepth 100000 in
set_option maxHeartbeats 8000000 in
theorem refMayK_calls (nm : ByteArray → Bool) (HNM : ∀ (s : ByteArray) (w : World), s.size ≤ maxLen → Calls Tryz.prog 49 #[.string s] w fun e w' => e = .returned (.bool (nm s)) ∧ w = w')
    (a : Kn) (v : Value) (w : World) (hR : FrW w a.l v) (hl1 : (flatI a.l).length ≤ 10000) :
    Calls Tryz.prog 48 #[knV a.star v] w fun e w' => e = .returned (.bool (mayK nm a)) ∧ Below w.heap.size w w' := by
  have hRR := hR
  obtain ⟨U, ov, cv, b0, o, rfl, hr⟩ := hR
  have HR := Lib.hid hr
  have hcap := hr.len
  have hmax := hr.max
  unfold maxLen at hmax
  clear hr
  have PA := fun w' h => Lib.hid (refPlainK_calls a (.slice ov a.l.length cv) w' h hl1)
  have AK := fun va vb w' h h' => Lib.hid (show Calls Tryz.prog 86 #[knV a.star va, knV a.star vb] w' (fun e w'' => e = .returned (.bool (alikeK a (plainB a))) ∧ Below w'.heap.size w' w'') from alike_calls a (plainB a) va vb w' h h')
  have MV := fun (f : Nat → Int) w' => Lib.hid (mayVec_calls f w')
  have OA := Lib.hid (Has.new w (knA a.star (.slice ov a.l.length cv)) 31)
  have BEL := Lib.hid ((Below.refl w.heap.size w).alloc (Nat.le_refl _) (.cells (knA a.star (.slice ov a.l.length cv)) 31))
  have LA := Lib.hid (hRR.later BEL.out (Nat.le_refl _))
  clear hRR hl1
  have HE := Lib.hid (show mayK nm a = ((alikeK a (plainB a) && mayV a.star) && a.l.all (mayFr nm)) from rfl)
  generalize mayK nm a = res at *
  generalize alikeK a (plainB a) = x1 at *
  generalize hx2 : mayV a.star = x2 at *
  have HX2 := Lib.hid hx2
  clear hx2
  generalize hn : a.l.length = len at *
  have HN := Lib.hid hn
  clear hn
  go_enter Tryz.func48, Tryz.ntmps48
  go_wp2_with fail
  replace OA := Lib.hid (OA.out.drew)
  replace LA := Lib.hid (LA.out.later (Below.refl _ _).drew (Nat.le_refl _))
  replace BEL := Lib.hid (BEL.out.drew)
  go_region_held3 (fun w' => ∀ o, w'.cell? ⟨w.heap.size, o, none⟩ = (knA a.star (.slice ov len cv))[o]?) (exact OA.out.cell)
    (first
      | (go_simp; go_at_call 103; refine (PA _ LA.out).out.mono ?_; rintro e wa ⟨va, rfl, hfa, hb⟩; replace hfa := hfa.fr; obtain ⟨oa, ca, rfl⟩ := hfa.val; have LPA := Lib.hid hfa; replace OA := Lib.hid (OA.out.below hb OA.out.lt); replace LA := Lib.hid (LA.out.later hb (Nat.le_refl _)); replace BEL := Lib.hid (BEL.out.trans (hb.mono BEL.out.size)); clear hb; clear hfa)
      | (go_simp; go_at_call 86; refine (AK _ _ _ LA.out LPA.out).out.mono ?_; rintro e wc ⟨rfl, hb⟩; replace OA := Lib.hid (OA.out.below hb OA.out.lt); replace BEL := Lib.hid (BEL.out.trans (hb.mono BEL.out.size)); clear hb))
  rename World => W9
  clear PA AK LA
  have MV2 := Lib.hid (MV a.star W9)
  rw [HX2.out] at MV2
  have MV0 := MV2.out
  have lOA := OA.out.cell
  have zOA := OA.out.lt
  cases x1
  · go_wp2_with (go_at_call 104; refine MV0.out.mono ?_; rintro e wb ⟨rfl, hb⟩)
    go_ret
    exact ⟨ret_bool (by rw [HE.out]; rfl), BEL.out.trans (hb.mono BEL.out.size)⟩
  cases x2
  · go_wp2_with (go_at_call 104; refine MV0.out.mono ?_; rintro e wb ⟨rfl, hb⟩)
    go_ret
    exact ⟨ret_bool (by rw [HE.out]; rfl), BEL.out.trans (hb.mono BEL.out.size)⟩
  have HE2 := Lib.hid (show res = a.l.all (mayFr nm) by rw [HE.out]; rfl)
  clear HE
  go_wp2_with (go_at_call 104; refine MV0.out.mono ?_; rintro e wb ⟨rfl, hb⟩; have HS0 := Lib.hid (show MkS w (knA a.star (.slice ov len cv)) wb from ⟨OA.out.below hb OA.out.lt, BEL.out.trans (hb.mono BEL.out.size)⟩))
  clear hb lOA zOA OA BEL MV0 MV2 HX2
  go_loopw [5] (fun iv wr => MkRel (mayFr nm) a.l len (knA a.star (.slice ov len cv)) w iv wr) (fun iv _ => len - (intOf iv).toNat)
  case atStart => exact ⟨0, Nat.zero_le _, rfl, fun j f hj => absurd hj (by omega), HS0⟩
  case round =>
    clear HS0
    obtain ⟨k, hk, rfl, HA, HS⟩ := hrel
    have l1 := HS.out.o1.cell
    have z1 := HS.out.o1.lt
    by_cases hlt : k < len
    · obtain ⟨f, hf⟩ : ∃ f, a.l[k]? = some f := ⟨_, List.getElem?_eq_getElem (by rw [HN.out]; exact hlt)⟩
      obtain ⟨rfl, hb0⟩ := HR.out.at0 (by rw [HN.out]; omega)
      obtain ⟨c0, c1, c2, c3, c4, c5, c6, c7, c8⟩ := fc_cells (w := wr) (fun j z hz => (HS.out.bel.cell (p := ⟨b0, o + k * 9 + j, none⟩) hb0).trans (HR.out.cell k f hf j z hz))
      obtain ⟨ou, cu, bu, qu, hu, ht⟩ := HR.out.ids k f hf
      have zb := Nat.lt_of_lt_of_le hb0 HS.out.bel.size
      have M := MV f.v wr
      have HF := Lib.hid hf
      have HU := Lib.hid hu
      have hcu := ht.len
      have hmu := ht.max
      unfold maxLen at hmu
      have HT := Lib.hid ht
      clear hf hu ht
      generalize hnf : f.ids.length = nf at *
      have HNF := Lib.hid hnf
      clear hnf
      have HFR := Lib.hid (show mayFr nm f = (mayV f.v && f.ids.all nm) from rfl)
      generalize mayV f.v = mv at *
      cases mv
      · have E := Lib.hid (show res = false by rw [HE2.out]; exact all_not_of HF.out (by rw [HFR.out]; rfl))
        go_wp2_with (go_at_call 104; refine M.out.mono ?_; rintro e wb ⟨rfl, hb⟩)
        go_ret
        exact ⟨ret_bool E.out.symm, HS.out.bel.trans (hb.mono HS.out.bel.size)⟩
      go_wp2_with (go_at_call 104; refine M.out.mono ?_; rintro e wb ⟨rfl, hb⟩; have HS7 := Lib.hid (HS.out.later hb))
      clear hb l1 z1 c0 c1 c2 c3 c4 c5 c6 c7 c8 zb HS M
      go_loopw [7] (fun iv wr => MkRel2 nm f.ids nf (knA a.star (.slice (some ⟨b0, o, none⟩) len cv)) w iv wr) (fun iv _ => nf - (intOf iv).toNat)
      case atStart => exact ⟨0, Nat.zero_le _, rfl, fun j f hj => absurd hj (by omega), HS7⟩
      case round =>
        clear HS7
        obtain ⟨j, hj, rfl, HB, HS⟩ := hrel
        have l1 := HS.out.o1.cell
        have z1 := HS.out.o1.lt
        obtain ⟨c0, _⟩ := fc_cells (w := wr) (fun j z hz => (HS.out.bel.cell (p := ⟨b0, o + k * 9 + j, none⟩) hb0).trans (HR.out.cell k f HF.out j z hz))
        rw [HU.out] at c0
        have zb := Nat.lt_of_lt_of_le hb0 HS.out.bel.size
        by_cases hjt : j < nf
        · obtain ⟨x, hx⟩ : ∃ x, f.ids[j]? = some x := ⟨_, List.getElem?_eq_getElem (by rw [HNF.out]; exact hjt)⟩
          obtain ⟨rfl, hb1⟩ := HT.out.at0 (by rw [HNF.out]; omega)
          have x0 := (HS.out.bel.cell (p := ⟨bu, qu + j, none⟩) hb1).trans (HT.out.cell j x hx)
          have zu := Nat.lt_of_lt_of_le hb1 HS.out.bel.size
          have NX := Lib.hid (HNM x wr (HT.out.ok x (List.mem_of_getElem? hx)))
          have HX := Lib.hid hx
          clear hx
          cases hnx : nm x
          · rw [hnx] at NX
            have E := Lib.hid (show res = false by rw [HE2.out]; exact all_not_of HF.out (by rw [HFR.out, all_not_of HX.out hnx]; rfl))
            clear hnx
            go_wp2_with (go_at_call 49; refine NX.out.mono ?_; rintro e wb ⟨rfl, rfl⟩)
            go_ret
            exact ⟨ret_bool E.out.symm, HS.out.bel⟩
          · rw [hnx] at NX
            have HB2 := Lib.hid (show ∀ q g, q < j + 1 → f.ids[q]? = some g → nm g = true from fun q g hq hg => by
              by_cases e : q = j
              · subst e; rw [HX.out] at hg; cases hg; exact hnx
              · exact HB.out q g (by omega) hg)
            clear hnx
            go_wp2_with (go_at_call 49; refine NX.out.mono ?_; rintro e wb ⟨rfl, rfl⟩)
            go_roundw
            case rel => exact ⟨j + 1, by omega, by go_num, HB2, HS⟩
            case measure => simp [intOf]; omega
        · have e : nf = j := by omega
          subst e
          have HA2 := Lib.hid (show ∀ q g, q < k + 1 → a.l[q]? = some g → mayFr nm g = true from fun q g hq hg => by
            by_cases e : q = k
            · subst e
              rw [HF.out] at hg; cases hg
              rw [HFR.out, all_of (fun j x hj hx => HB.out j x (by rw [HNF.out] at hj; exact hj) hx)]; rfl
            · exact HA.out q g (by omega) hg)
          go_wp2_with fail
          go_roundw
          case rel => exact ⟨k + 1, by omega, by go_num, HA2, HS⟩
          case measure => simp [intOf]; omega
    · have e : len = k := by omega
      subst e
      have E := Lib.hid (show res = true by rw [HE2.out]; exact all_of (fun j x hj hx => HA.out j x (by rw [HN.out] at hj; exact hj) hx))
      go_wp2_with fail
      go_ret
      exact ⟨ret_bool E.out.symm, HS.out.bel⟩
end Go.Proofs.YthbjgfennclidaaGreat
/- States: what they are as plain data, how they lie, what may be. No walk. -/
namespace Go.Proofs.YthbjgfennclidaaGreat
set_option linter.unusedVariables false
set_option linter.unusedSimpArgs false
set_option maxRecDepth 100000
open Go.RowKit
structure St where
  r : Int
  f : Pr
  store : List Itm
  out : List Itm
  k : Kn
  count : Int
  clock : Int
  epoch : Int
abbrev prV (p : Pr) (v : Value) : Value := .agg #[.int .i64 p.op, .string p.text, .int .i64 p.n, .complex .f64 p.x p.y, v]
abbrev stA (s : St) (fv sv ov kv : Value) : Array Value := #[.int .i64 s.r, .int .i64 s.f.op, .string s.f.text, .int .i64 s.f.n, .complex .f64 s.f.x s.f.y, fv, sv, ov, .int .i64 (s.k.star 0), .int .i64 (s.k.star 1), .int .i64 (s.k.star 2), .int .i64 (s.k.star 3), .int .i64 (s.k.star 4), .int .i64 (s.k.star 5), .int .i64 (s.k.star 6), .int .i64 (s.k.star 7), kv, .int .i64 s.count, .int .i64 s.clock, .int .i64 s.epoch]
abbrev stV (s : St) (fv sv ov kv : Value) : Value := .agg #[.int .i64 s.r, .int .i64 s.f.op, .string s.f.text, .int .i64 s.f.n, .complex .f64 s.f.x s.f.y, fv, sv, ov, .int .i64 (s.k.star 0), .int .i64 (s.k.star 1), .int .i64 (s.k.star 2), .int .i64 (s.k.star 3), .int .i64 (s.k.star 4), .int .i64 (s.k.star 5), .int .i64 (s.k.star 6), .int .i64 (s.k.star 7), kv, .int .i64 s.count, .int .i64 s.clock, .int .i64 s.epoch]
structure StW (w : World) (s : St) (fv sv ov kv : Value) : Prop where
  lf : LP w s.f fv
  ls : Row 8 ic w s.store sv
  lo : Row 8 ic w s.out ov
  lk : FrW w s.k.l kv
theorem StW.later {w w' : World} {s : St} {fv sv ov kv : Value} (h : StW w s fv sv ov kv) (hb : Below w.heap.size w w') : StW w' s fv sv ov kv :=
  ⟨h.lf.later hb (Nat.le_refl _), h.ls.later hb, h.lo.later hb, h.lk.later hb (Nat.le_refl _)⟩
theorem StW.alloc {w : World} {s : St} {fv sv ov kv : Value} (h : StW w s fv sv ov kv) (o : Obj) : StW (w.alloc o) s fv sv ov kv := h.later ((Below.refl _ _).alloc (Nat.le_refl _) _)
theorem StW.drew {w : World} {s : St} {fv sv ov kv : Value} (h : StW w s fv sv ov kv) : StW w.drew s fv sv ov kv := h.later (Below.refl _ _).drew
theorem StW.regrown {w : World} {s : St} {fv sv ov kv : Value} (h : StW w s fv sv ov kv) (d : Nat) (os : Array Obj) : StW (Sort.grow (redrawn w d) os) s fv sv ov kv := h.later (below_regrown w d os)
structure StB (s : St) : Prop where
  f : s.f.size ≤ 60
  ls : s.store.length ≤ 200
  lo : s.out.length ≤ 200
  kl : s.k.l.length ≤ 5000
  ki : (flatI s.k.l).length ≤ 5000
def Itm.it (i : Itm) : It := ⟨i.id, i.kd, i.num, i.x, i.y⟩
def hasT (f : Pr) (i : Itm) : Bool := f.hasB i.it
theorem hasT_calls (i : Itm) (hid : i.id.size ≤ maxLen) (p : Pr) (v : Value) (w : World) (h : LP w p v) (hp : p.size ≤ 1000) :
    Calls Tryz.prog 21 #[prV p v, iV i] w fun e w' => e = .returned (.bool (hasT p i)) ∧ Below w.heap.size w w' :=
  refHas_calls i.it i.r i.c i.st i.d hid p v w h hp
def beyS (k : Kn) (r count : Int) : Bool := decide (count < cntV k.star r) || k.l.any fun q => decide (count < cntV q.v r)
def stoodI (s : St) (want : Bool) (i : Itm) : Bool := (hasT s.f i == want) && (hasK s.k i.id i.r i.c && decide (i.st ≤ s.clock))
def stoodB (s : St) (l : List Itm) (want : Bool) : Bool := l.all (stoodI s want)
def twiceB (s : St) : Bool := s.out.all fun i => !(getI s.store i.id).2
def numS (s : St) : Bool := inB s.count 0 1000 && (inB s.clock 0 1000000 && inB s.epoch 0 1000000)
def headS (s : St) : Bool := Pr.mayB s.f && (mayLB s.store && (mayLB s.out && (mayK nameB s.k && (inB s.r 1 8 && decide (s.store.length + s.out.length ≤ 40)))))
def mayS (s : St) : Bool := headS s && (numS s && (twiceB s && (stoodB s s.store true && (stoodB s s.out false && !beyS s.k s.r s.count))))
end Go.Proofs.YthbjgfennclidaaGreat
