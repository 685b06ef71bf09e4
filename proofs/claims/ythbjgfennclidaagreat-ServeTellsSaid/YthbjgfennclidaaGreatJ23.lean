/- Joined: RefSeen. -/
import Derived.Test.YthbjgfennclidaaGreatJ14
import Derived.Test.YthbjgfennclidaaGreatJ12
import Derived.Test.YthbjgfennclidaaGreatJ22
import Derived.Test.YthbjgfennclidaaGreatJ01
import Derived.Deep.CutBlock
import Derived.Deep.DeepCutAuto
/- Which filter is seen in which: the document's answer, walked. -/
namespace Go.Proofs.YthbjgfennclidaaGreat
set_option linter.unusedVariables false
set_option linter.unusedSimpArgs false
set_option maxRecDepth 100000
open Go.RowKit
def SeenFn (p q : Pr) : Prop := ∀ (v v' : Value) (w : World), LP w p v → LP w q v' → p.all = true → q.all = true →
    Calls Tryz.prog 118 #[.agg #[.int .i64 p.op, .string p.text, .int .i64 p.n, .complex .f64 p.x p.y, v], .agg #[.int .i64 q.op, .string q.text, .int .i64 q.n, .complex .f64 q.x q.y, v']] w fun e w' => e = .returned (.bool (Pr.seenB p q)) ∧ Below w.heap.size w w'
def SRel (f : Pr → Bool) (l : List Pr) (len : Nat) (w0 : World) (al so i : Value) (wr : World) : Prop :=
  ∃ (k : Nat) (a s : Bool), k ≤ len ∧ i = .int .i64 k ∧ al = .bool a ∧ so = .bool s ∧ Hid (a = (l.take k).all f) ∧ Hid (s = (l.take k).any f) ∧ Below w0.heap.size w0 wr
theorem take_allB {f : Pr → Bool} {l : List Pr} {k : Nat} {q : Pr} (hq : l[k]? = some q) : (l.take (k + 1)).all f = ((l.take k).all f && f q) := by
  rw [Pr.take_one hq, List.all_append]; simp
theorem take_anyB {f : Pr → Bool} {l : List Pr} {k : Nat} {q : Pr} (hq : l[k]? = some q) : (l.take (k + 1)).any f = ((l.take k).any f || f q) := by
  rw [Pr.take_one hq, List.any_append]; simp
set_option maxRecDepth 100000 in
set_option maxHeartbeats 8000000 in
theorem lists_calls (p q : Pr) (H1 : ∀ k ∈ p.kids, SeenFn k q) (H2 : ∀ k ∈ q.kids, SeenFn p k) (v v' : Value) (w : World) (hL : LP w p v) (hM : LP w q v') (hp : p.all = true) (hq : q.all = true) :
    Calls Tryz.prog 174 #[.agg #[.int .i64 p.op, .string p.text, .int .i64 p.n, .complex .f64 p.x p.y, v], .agg #[.int .i64 q.op, .string q.text, .int .i64 q.n, .complex .f64 q.x q.y, v']] w fun e w' => e = .returned (.bool (Pr.listsB p q)) ∧ Below w.heap.size w w' := by
  have hpk := fun k (hk : k ∈ p.kids) => Pr.alls_iff.1 (Pr.all_kids hp) k hk
  have hqk := fun k (hk : k ∈ q.kids) => Pr.alls_iff.1 (Pr.all_kids hq) k hk
  have HLp := Lib.hid hL
  have HLq := Lib.hid hM
  obtain ⟨oa, cap, b, o, V, rfl, ht, hl, hc, hn, hcell, hrec⟩ := lies_slice hL
  obtain ⟨oa', cap', b', o', V', rfl, ht', hl', hc', hn', hcell', hrec'⟩ := lies_slice hM
  obtain ⟨op, t, n, x, y, kids⟩ := p
  obtain ⟨op', t', n', x', y', kids'⟩ := q
  simp only [Pr.kids_node, Pr.text_node, Pr.op_node, Pr.n_node, Pr.x_node, Pr.y_node] at *
  unfold maxLen at hc hc'
  have HC := Lib.hid hcell
  have HR := Lib.hid hrec
  have HN := Lib.hid hn
  have HC' := Lib.hid hcell'
  have HR' := Lib.hid hrec'
  have HN' := Lib.hid hn'
  have HH1 := Lib.hid H1
  have HH2 := Lib.hid H2
  have HPK := Lib.hid hpk
  have HQK := Lib.hid hqk
  have HPA := Lib.hid hp
  have HQA := Lib.hid hq
  clear hL hM hcell hrec hn hcell' hrec' hn' ht ht' H1 H2 hpk hqk hp hq
  have HE := Lib.hid (show Pr.listsB (Pr.node op t n x y kids) (Pr.node op' t' n' x' y' kids') = (((decide (op = 9) && kids.all fun k => Pr.seenB k (Pr.node op' t' n' x' y' kids')) || (decide (op = 8) && kids.any fun k => Pr.seenB k (Pr.node op' t' n' x' y' kids'))) || ((decide (op' = 8) && kids'.all fun k => Pr.seenB (Pr.node op t n x y kids) k) || (decide (op' = 9) && kids'.any fun k => Pr.seenB (Pr.node op t n x y kids) k))) from rfl)
  generalize hlen : kids.length = len at *
  have HLEN := Lib.hid hlen
  generalize hlen' : kids'.length = len' at *
  have HLEN' := Lib.hid hlen'
  clear hlen hlen'
  generalize hres : Pr.listsB (Pr.node op t n x y kids) (Pr.node op' t' n' x' y' kids') = res at *
  clear hres
  go_enter Tryz.func174, Tryz.ntmps174
  go_wp2_with fail
  go_loopw [5, 6, 7] (fun al so i wr => SRel (fun k => Pr.seenB k (Pr.node op' t' n' x' y' kids')) kids len ((w.alloc (.cells #[.int .i64 op, .string t, .int .i64 n, .complex .f64 x y, .slice oa len cap] 44)).alloc (.cells #[.int .i64 op', .string t', .int .i64 n', .complex .f64 x' y', .slice oa' len' cap'] 44)) al so i wr) (fun _ _ i _ => len - (intOf i).toNat)
  case atStart => exact ⟨0, true, false, Nat.zero_le _, rfl, rfl, rfl, by simp [Hid], by simp [Hid], Below.refl _ _⟩
  case round =>
    obtain ⟨k, a, s, hk, rfl, rfl, rfl, HAl, HSo, hb⟩ := hrel
    have BW := Lib.hid (below_new (below_new hb))
    have G1 := Lib.hid (((Has.new w #[.int .i64 op, .string t, .int .i64 n, .complex .f64 x y, .slice oa len cap] 44).alloc (.cells #[.int .i64 op', .string t', .int .i64 n', .complex .f64 x' y', .slice oa' len' cap'] 44)).below hb (by simp; omega))
    have G2 := Lib.hid ((Own.newAt (w.alloc (.cells #[.int .i64 op, .string t, .int .i64 n, .complex .f64 x y, .slice oa len cap] 44)) #[.int .i64 op', .string t', .int .i64 n', .complex .f64 x' y', .slice oa' len' cap'] 44 (b := w.heap.size + 1) (by simp)).has.below hb (by simp))
    by_cases hlt : k < len
    · obtain ⟨d, hd⟩ : ∃ d, kids[k]? = some d := ⟨_, List.getElem?_eq_getElem (by rw [HLEN.out]; exact hlt)⟩
      obtain ⟨rfl, hB⟩ := HN.out (by omega)
      obtain ⟨od, cd, hV⟩ := lies_val (HR.out k d hd)
      obtain ⟨c0, c1, c2, c3, c4⟩ := pc_cells (w := wr) (fun j u hu => (BW.out.cell (p := ⟨b, o + k * 5 + j, none⟩) hB).trans (HC.out k d hd j u hu))
      have L0 := (HR.out k d hd).later BW.out (Nat.le_refl _)
      rw [hV] at c4 L0
      have CC := fun dd os => HH1.out d (List.mem_of_getElem? hd) (.slice od d.kids.length cd) (.slice oa' len' cap') (Sort.grow (redrawn wr dd) os) (L0.later (below_regrown _ _ _) (Nat.le_refl _)) ((HLq.out.later BW.out (Nat.le_refl _)).later (below_regrown _ _ _) (Nat.le_refl _)) (HPK.out d (List.mem_of_getElem? hd)) HQA.out
      have r0 := fun dd os => cell_regrown c0 dd os
      have r1 := fun dd os => cell_regrown c1 dd os
      have r2 := fun dd os => cell_regrown c2 dd os
      have r3 := fun dd os => cell_regrown c3 dd os
      have r4 := fun dd os => cell_regrown c4 dd os
      have LA := fun dd os o => G1.out.regrown dd os o
      have LB := fun dd os o => G2.out.regrown dd os o
      have l1 := G1.out.cell
      have l2 := G2.out.cell
      have HB := Lib.hid hb
      simp only [Pr.op_node, Pr.text_node, Pr.n_node, Pr.x_node, Pr.y_node] at CC
      have m3 := fun dd os => Lib.hid (Calls.regrown_of (CC dd os))
      have HNa := Lib.hid (take_allB (f := (fun k => Pr.seenB k (Pr.node op' t' n' x' y' kids'))) hd)
      have HNs := Lib.hid (take_anyB (f := (fun k => Pr.seenB k (Pr.node op' t' n' x' y' kids'))) hd)
      simp only [← HAl.out, ← HSo.out] at HNa HNs
      generalize Pr.seenB d (Pr.node op' t' n' x' y' kids') = sv at *
      have hk0 : (k : Int) < (len : Int) := by omega
      have hk1 : (0 : Int) ≤ (k : Int) := by omega
      clear hb hV L0 hd CC
      go_wp2_with fail
      refine wp_region_quiet_below (by kernel_rfl) (by kernel_rfl) ?_
      repeat (first | go_big_quiet_step ((with_reducible exact (m3 _ _).out)) | quiet_step (with_reducible exact (m3 _ _).out))
      refine wpQuiet_nil ?_
      intro w7 hw'
      have hb' := Lib.hid (regrown_below hw')
      clear hw' m3 r0 r1 r2 r3 r4 LA LB l1 l2 c0 c1 c2 c3 c4
      have HB9 := Lib.hid (HB.out.trans (hb'.out.mono HB.out.size))
      clear HB hb'
      cases a <;> cases s <;> cases sv
      all_goals
        go_wp2_with fail
        go_roundw
        case rel => exact ⟨k + 1, _, _, by omega, by go_num, rfl, rfl, Lib.hid (by rw [HNa.out]; rfl), Lib.hid (by rw [HNs.out]; rfl), HB9.out⟩
        case measure => simp [intOf]; omega
    · have e : len = k := by omega
      subst e
      have ha := HAl.out
      have hs := HSo.out
      rw [Pr.take_all kids (by rw [HLEN.out]; omega)] at ha hs
      have he1 := HE.out
      rw [← ha, ← hs] at he1
      have HE1 := Lib.hid he1
      clear ha hs HAl HSo HE he1
      have BW1 := BW
      have G1a := G1
      have G2a := G2
      have l1 := G1.out.cell
      have l2 := G2.out.cell
      have z1 := G1.out.lt
      have z2 := G2.out.lt
      clear hb
      generalize wr = w1 at *
      have hop : (op = 9 ∧ a = true ∨ op = 8 ∧ s = true) ∨ (op = 9 ∧ a = false) ∨ (op = 8 ∧ s = false) ∨ (op ≠ 9 ∧ op ≠ 8) := by
        cases a <;> cases s <;> simp <;> omega
      rcases hop with (⟨rfl, rfl⟩ | ⟨rfl, rfl⟩) | ⟨rfl, rfl⟩ | ⟨rfl, rfl⟩ | ⟨n9, n8⟩
      · go_wp2_with fail
        go_ret
        exact ⟨ret_bool (by rw [HE1.out]; simp), BW1.out⟩
      · go_wp2_with fail
        go_ret
        exact ⟨ret_bool (by rw [HE1.out]; simp), BW1.out⟩
      · clear BW G1 G2
        go_wp2_with fail
        clear l1 l2 z1 z2
        go_loopw [5, 6, 9] (fun al so i wr => SRel (fun k => Pr.seenB (Pr.node 9 t n x y kids) k) kids' len' w1 al so i wr) (fun _ _ i _ => len' - (intOf i).toNat)
        case atStart => exact ⟨0, true, false, Nat.zero_le _, rfl, rfl, rfl, by simp [Hid], by simp [Hid], Below.refl _ _⟩
        case round =>
          obtain ⟨k, a, s, hk, rfl, rfl, rfl, HAl, HSo, hb⟩ := hrel
          have BW := Lib.hid (BW1.out.trans (hb.mono BW1.out.size))
          have G1 := Lib.hid (G1a.out.below hb G1a.out.lt)
          have G2 := Lib.hid (G2a.out.below hb G2a.out.lt)
          by_cases hlt : k < len'
          · obtain ⟨d, hd⟩ : ∃ d, kids'[k]? = some d := ⟨_, List.getElem?_eq_getElem (by rw [HLEN'.out]; exact hlt)⟩
            obtain ⟨rfl, hB⟩ := HN'.out (by omega)
            obtain ⟨od, cd, hV⟩ := lies_val (HR'.out k d hd)
            obtain ⟨c0, c1, c2, c3, c4⟩ := pc_cells (w := wr) (fun j u hu => (BW.out.cell (p := ⟨b', o' + k * 5 + j, none⟩) hB).trans (HC'.out k d hd j u hu))
            have L0 := (HR'.out k d hd).later BW.out (Nat.le_refl _)
            rw [hV] at c4 L0
            have CC := fun dd os => HH2.out d (List.mem_of_getElem? hd) (.slice oa len cap) (.slice od d.kids.length cd) (Sort.grow (redrawn wr dd) os) ((HLp.out.later BW.out (Nat.le_refl _)).later (below_regrown _ _ _) (Nat.le_refl _)) (L0.later (below_regrown _ _ _) (Nat.le_refl _)) HPA.out (HQK.out d (List.mem_of_getElem? hd))
            have r0 := fun dd os => cell_regrown c0 dd os
            have r1 := fun dd os => cell_regrown c1 dd os
            have r2 := fun dd os => cell_regrown c2 dd os
            have r3 := fun dd os => cell_regrown c3 dd os
            have r4 := fun dd os => cell_regrown c4 dd os
            have LA := fun dd os o => G1.out.regrown dd os o
            have LB := fun dd os o => G2.out.regrown dd os o
            have l1 := G1.out.cell
            have l2 := G2.out.cell
            have HB := Lib.hid hb
            simp only [Pr.op_node, Pr.text_node, Pr.n_node, Pr.x_node, Pr.y_node] at CC
            have m3 := fun dd os => Lib.hid (Calls.regrown_of (CC dd os))
            have HNa := Lib.hid (take_allB (f := (fun k => Pr.seenB (Pr.node 9 t n x y kids) k)) hd)
            have HNs := Lib.hid (take_anyB (f := (fun k => Pr.seenB (Pr.node 9 t n x y kids) k)) hd)
            simp only [← HAl.out, ← HSo.out] at HNa HNs
            generalize Pr.seenB (Pr.node 9 t n x y kids) d = sv at *
            have hk0 : (k : Int) < (len' : Int) := by omega
            have hk1 : (0 : Int) ≤ (k : Int) := by omega
            clear hb hV L0 hd CC
            go_wp2_with fail
            refine wp_region_quiet_below (by kernel_rfl) (by kernel_rfl) ?_
            repeat (first | go_big_quiet_step ((with_reducible exact (m3 _ _).out)) | quiet_step (with_reducible exact (m3 _ _).out))
            refine wpQuiet_nil ?_
            intro w7 hw'
            have hb' := Lib.hid (regrown_below hw')
            clear hw' m3 r0 r1 r2 r3 r4 LA LB l1 l2 c0 c1 c2 c3 c4
            have HB9 := Lib.hid (HB.out.trans (hb'.out.mono HB.out.size))
            clear HB hb'
            cases a <;> cases s <;> cases sv
            all_goals
              go_wp2_with fail
              go_roundw
              case rel => exact ⟨k + 1, _, _, by omega, by go_num, rfl, rfl, Lib.hid (by rw [HNa.out]; rfl), Lib.hid (by rw [HNs.out]; rfl), HB9.out⟩
              case measure => simp [intOf]; omega
          · have e : len' = k := by omega
            subst e
            have ha := HAl.out
            have hs := HSo.out
            rw [Pr.take_all kids' (by rw [HLEN'.out]; omega)] at ha hs
            have he2 := HE1.out
            rw [← ha, ← hs] at he2
            have HE2 := Lib.hid he2
            clear ha hs HAl HSo HE1 he2
            have l1 := G1.out.cell
            have l2 := G2.out.cell
            have z1 := G1.out.lt
            have z2 := G2.out.lt
            clear hb
            have hop' : op' = 8 ∨ op' = 9 ∨ (op' ≠ 8 ∧ op' ≠ 9) := by omega
            rcases hop' with rfl | rfl | ⟨m8, m9⟩
            · cases a
              all_goals
                go_wp2_with fail
                go_ret
                exact ⟨ret_bool (by rw [HE2.out]; simp [*]), BW.out⟩
            · cases s
              all_goals
                go_wp2_with fail
                go_ret
                exact ⟨ret_bool (by rw [HE2.out]; simp [*]), BW.out⟩
            · go_wp2_with fail
              go_ret
              exact ⟨ret_bool (by rw [HE2.out]; simp [*]), BW.out⟩
      · clear BW G1 G2
        go_wp2_with fail
        clear l1 l2 z1 z2
        go_loopw [5, 6, 9] (fun al so i wr => SRel (fun k => Pr.seenB (Pr.node 8 t n x y kids) k) kids' len' w1 al so i wr) (fun _ _ i _ => len' - (intOf i).toNat)
        case atStart => exact ⟨0, true, false, Nat.zero_le _, rfl, rfl, rfl, by simp [Hid], by simp [Hid], Below.refl _ _⟩
        case round =>
          obtain ⟨k, a, s, hk, rfl, rfl, rfl, HAl, HSo, hb⟩ := hrel
          have BW := Lib.hid (BW1.out.trans (hb.mono BW1.out.size))
          have G1 := Lib.hid (G1a.out.below hb G1a.out.lt)
          have G2 := Lib.hid (G2a.out.below hb G2a.out.lt)
          by_cases hlt : k < len'
          · obtain ⟨d, hd⟩ : ∃ d, kids'[k]? = some d := ⟨_, List.getElem?_eq_getElem (by rw [HLEN'.out]; exact hlt)⟩
            obtain ⟨rfl, hB⟩ := HN'.out (by omega)
            obtain ⟨od, cd, hV⟩ := lies_val (HR'.out k d hd)
            obtain ⟨c0, c1, c2, c3, c4⟩ := pc_cells (w := wr) (fun j u hu => (BW.out.cell (p := ⟨b', o' + k * 5 + j, none⟩) hB).trans (HC'.out k d hd j u hu))
            have L0 := (HR'.out k d hd).later BW.out (Nat.le_refl _)
            rw [hV] at c4 L0
            have CC := fun dd os => HH2.out d (List.mem_of_getElem? hd) (.slice oa len cap) (.slice od d.kids.length cd) (Sort.grow (redrawn wr dd) os) ((HLp.out.later BW.out (Nat.le_refl _)).later (below_regrown _ _ _) (Nat.le_refl _)) (L0.later (below_regrown _ _ _) (Nat.le_refl _)) HPA.out (HQK.out d (List.mem_of_getElem? hd))
            have r0 := fun dd os => cell_regrown c0 dd os
            have r1 := fun dd os => cell_regrown c1 dd os
            have r2 := fun dd os => cell_regrown c2 dd os
            have r3 := fun dd os => cell_regrown c3 dd os
            have r4 := fun dd os => cell_regrown c4 dd os
            have LA := fun dd os o => G1.out.regrown dd os o
            have LB := fun dd os o => G2.out.regrown dd os o
            have l1 := G1.out.cell
            have l2 := G2.out.cell
            have HB := Lib.hid hb
            simp only [Pr.op_node, Pr.text_node, Pr.n_node, Pr.x_node, Pr.y_node] at CC
            have m3 := fun dd os => Lib.hid (Calls.regrown_of (CC dd os))
            have HNa := Lib.hid (take_allB (f := (fun k => Pr.seenB (Pr.node 8 t n x y kids) k)) hd)
            have HNs := Lib.hid (take_anyB (f := (fun k => Pr.seenB (Pr.node 8 t n x y kids) k)) hd)
            simp only [← HAl.out, ← HSo.out] at HNa HNs
            generalize Pr.seenB (Pr.node 8 t n x y kids) d = sv at *
            have hk0 : (k : Int) < (len' : Int) := by omega
            have hk1 : (0 : Int) ≤ (k : Int) := by omega
            clear hb hV L0 hd CC
            go_wp2_with fail
            refine wp_region_quiet_below (by kernel_rfl) (by kernel_rfl) ?_
            repeat (first | go_big_quiet_step ((with_reducible exact (m3 _ _).out)) | quiet_step (with_reducible exact (m3 _ _).out))
            refine wpQuiet_nil ?_
            intro w7 hw'
            have hb' := Lib.hid (regrown_below hw')
            clear hw' m3 r0 r1 r2 r3 r4 LA LB l1 l2 c0 c1 c2 c3 c4
            have HB9 := Lib.hid (HB.out.trans (hb'.out.mono HB.out.size))
            clear HB hb'
            cases a <;> cases s <;> cases sv
            all_goals
              go_wp2_with fail
              go_roundw
              case rel => exact ⟨k + 1, _, _, by omega, by go_num, rfl, rfl, Lib.hid (by rw [HNa.out]; rfl), Lib.hid (by rw [HNs.out]; rfl), HB9.out⟩
              case measure => simp [intOf]; omega
          · have e : len' = k := by omega
            subst e
            have ha := HAl.out
            have hs := HSo.out
            rw [Pr.take_all kids' (by rw [HLEN'.out]; omega)] at ha hs
            have he2 := HE1.out
            rw [← ha, ← hs] at he2
            have HE2 := Lib.hid he2
            clear ha hs HAl HSo HE1 he2
            have l1 := G1.out.cell
            have l2 := G2.out.cell
            have z1 := G1.out.lt
            have z2 := G2.out.lt
            clear hb
            have hop' : op' = 8 ∨ op' = 9 ∨ (op' ≠ 8 ∧ op' ≠ 9) := by omega
            rcases hop' with rfl | rfl | ⟨m8, m9⟩
            · cases a
              all_goals
                go_wp2_with fail
                go_ret
                exact ⟨ret_bool (by rw [HE2.out]; simp [*]), BW.out⟩
            · cases s
              all_goals
                go_wp2_with fail
                go_ret
                exact ⟨ret_bool (by rw [HE2.out]; simp [*]), BW.out⟩
            · go_wp2_with fail
              go_ret
              exact ⟨ret_bool (by rw [HE2.out]; simp [*]), BW.out⟩
      · clear BW G1 G2
        go_wp2_with fail
        clear l1 l2 z1 z2
        go_loopw [5, 6, 9] (fun al so i wr => SRel (fun k => Pr.seenB (Pr.node op t n x y kids) k) kids' len' w1 al so i wr) (fun _ _ i _ => len' - (intOf i).toNat)
        case atStart => exact ⟨0, true, false, Nat.zero_le _, rfl, rfl, rfl, by simp [Hid], by simp [Hid], Below.refl _ _⟩
        case round =>
          obtain ⟨k, a, s, hk, rfl, rfl, rfl, HAl, HSo, hb⟩ := hrel
          have BW := Lib.hid (BW1.out.trans (hb.mono BW1.out.size))
          have G1 := Lib.hid (G1a.out.below hb G1a.out.lt)
          have G2 := Lib.hid (G2a.out.below hb G2a.out.lt)
          by_cases hlt : k < len'
          · obtain ⟨d, hd⟩ : ∃ d, kids'[k]? = some d := ⟨_, List.getElem?_eq_getElem (by rw [HLEN'.out]; exact hlt)⟩
            obtain ⟨rfl, hB⟩ := HN'.out (by omega)
            obtain ⟨od, cd, hV⟩ := lies_val (HR'.out k d hd)
            obtain ⟨c0, c1, c2, c3, c4⟩ := pc_cells (w := wr) (fun j u hu => (BW.out.cell (p := ⟨b', o' + k * 5 + j, none⟩) hB).trans (HC'.out k d hd j u hu))
            have L0 := (HR'.out k d hd).later BW.out (Nat.le_refl _)
            rw [hV] at c4 L0
            have CC := fun dd os => HH2.out d (List.mem_of_getElem? hd) (.slice oa len cap) (.slice od d.kids.length cd) (Sort.grow (redrawn wr dd) os) ((HLp.out.later BW.out (Nat.le_refl _)).later (below_regrown _ _ _) (Nat.le_refl _)) (L0.later (below_regrown _ _ _) (Nat.le_refl _)) HPA.out (HQK.out d (List.mem_of_getElem? hd))
            have r0 := fun dd os => cell_regrown c0 dd os
            have r1 := fun dd os => cell_regrown c1 dd os
            have r2 := fun dd os => cell_regrown c2 dd os
            have r3 := fun dd os => cell_regrown c3 dd os
            have r4 := fun dd os => cell_regrown c4 dd os
            have LA := fun dd os o => G1.out.regrown dd os o
            have LB := fun dd os o => G2.out.regrown dd os o
            have l1 := G1.out.cell
            have l2 := G2.out.cell
            have HB := Lib.hid hb
            simp only [Pr.op_node, Pr.text_node, Pr.n_node, Pr.x_node, Pr.y_node] at CC
            have m3 := fun dd os => Lib.hid (Calls.regrown_of (CC dd os))
            have HNa := Lib.hid (take_allB (f := (fun k => Pr.seenB (Pr.node op t n x y kids) k)) hd)
            have HNs := Lib.hid (take_anyB (f := (fun k => Pr.seenB (Pr.node op t n x y kids) k)) hd)
            simp only [← HAl.out, ← HSo.out] at HNa HNs
            generalize Pr.seenB (Pr.node op t n x y kids) d = sv at *
            have hk0 : (k : Int) < (len' : Int) := by omega
            have hk1 : (0 : Int) ≤ (k : Int) := by omega
            clear hb hV L0 hd CC
            go_wp2_with fail
            refine wp_region_quiet_below (by kernel_rfl) (by kernel_rfl) ?_
            repeat (first | go_big_quiet_step ((with_reducible exact (m3 _ _).out)) | quiet_step (with_reducible exact (m3 _ _).out))
            refine wpQuiet_nil ?_
            intro w7 hw'
            have hb' := Lib.hid (regrown_below hw')
            clear hw' m3 r0 r1 r2 r3 r4 LA LB l1 l2 c0 c1 c2 c3 c4
            have HB9 := Lib.hid (HB.out.trans (hb'.out.mono HB.out.size))
            clear HB hb'
            cases a <;> cases s <;> cases sv
            all_goals
              go_wp2_with fail
              go_roundw
              case rel => exact ⟨k + 1, _, _, by omega, by go_num, rfl, rfl, Lib.hid (by rw [HNa.out]; rfl), Lib.hid (by rw [HNs.out]; rfl), HB9.out⟩
              case measure => simp [intOf]; omega
          · have e : len' = k := by omega
            subst e
            have ha := HAl.out
            have hs := HSo.out
            rw [Pr.take_all kids' (by rw [HLEN'.out]; omega)] at ha hs
            have he2 := HE1.out
            rw [← ha, ← hs] at he2
            have HE2 := Lib.hid he2
            clear ha hs HAl HSo HE1 he2
            have l1 := G1.out.cell
            have l2 := G2.out.cell
            have z1 := G1.out.lt
            have z2 := G2.out.lt
            clear hb
            have hop' : op' = 8 ∨ op' = 9 ∨ (op' ≠ 8 ∧ op' ≠ 9) := by omega
            rcases hop' with rfl | rfl | ⟨m8, m9⟩
            · cases a
              all_goals
                go_wp2_with fail
                go_ret
                exact ⟨ret_bool (by rw [HE2.out]; simp [*]), BW.out⟩
            · cases s
              all_goals
                go_wp2_with fail
                go_ret
                exact ⟨ret_bool (by rw [HE2.out]; simp [*]), BW.out⟩
            · go_wp2_with fail
              go_ret
              exact ⟨ret_bool (by rw [HE2.out]; simp [*]), BW.out⟩
set_option maxRecDepth 100000 in
set_option maxHeartbeats 8000000 in
theorem seen_any : ∀ (N : Nat) (p q : Pr), p.size + q.size ≤ N → SeenFn p q := by
  intro N
  induction N with
  | zero => intro p q h; have := Pr.size_pos p; omega
  | succ N ih =>
    intro p q hsz v v' w hL hM hp hq
    have LI := fun w' (h : LP w' p v) (h' : LP w' q v') => Lib.hid (lists_calls p q (fun k hk => ih k q (by have := Pr.kid_size hk; omega)) (fun k hk => ih p k (by have := Pr.kid_size hk; omega)) v v' w' h h' hp hq)
    have SM := fun w' (h : LP w' p v) (h' : LP w' q v') => Lib.hid (refSame_any p q v v' w' h h')
    have HLp := Lib.hid hL
    have HLq := Lib.hid hM
    obtain ⟨oa, cap, b, o, V, rfl, ht, hl, hc, hn, hcell, hrec⟩ := lies_slice hL
    obtain ⟨oa', cap', b', o', V', rfl, ht', hl', hc', hn', hcell', hrec'⟩ := lies_slice hM
    have hlists : p.op ≠ 8 → p.op ≠ 9 → q.op ≠ 8 → q.op ≠ 9 → Pr.listsB p q = false := by
      intro a1 a2 a3 a4
      unfold Pr.listsB
      rw [decide_eq_false a1, decide_eq_false a2, decide_eq_false a3, decide_eq_false a4]
      simp
    have hrest : p.op ≠ q.op → Pr.restB p q = false := by
      intro a1
      unfold Pr.restB
      rw [decide_eq_false a1]; simp
    have hrest2 : p.op ≠ 4 → p.op ≠ 5 → p.op ≠ 6 → p.op ≠ 7 → p.op ≠ 10 → Pr.restB p q = false := by
      intro a1 a2 a3 a4 a5
      unfold Pr.restB
      rw [if_neg a1, if_neg a2, if_neg a3, if_neg a4, if_neg a5]; simp
    have h10 : p.op = 10 → q.op = 10 → ∃ a c, p.kids = [a] ∧ q.kids = [c] := by
      intro e1 e2
      obtain ⟨_, _, _, _, _, l⟩ := p
      obtain ⟨_, _, _, _, _, l'⟩ := q
      simp only [Pr.op_node] at e1 e2
      subst e1 e2
      simp only [Pr.all, Bool.and_eq_true] at hp hq
      have k1 := Pr.part10 hp.1
      have k2 := Pr.part10 hq.1
      match l, l', k1, k2 with
      | [a], [c], _, _ => exact ⟨a, c, rfl, rfl⟩
    have HI := Lib.hid ih
    obtain ⟨op, t, n, x, y, kids⟩ := p
    obtain ⟨op', t', n', x', y', kids'⟩ := q
    simp only [Pr.kids_node, Pr.text_node, Pr.op_node, Pr.n_node, Pr.x_node, Pr.y_node] at *
    have HE := Lib.hid (show Pr.seenB (Pr.node op t n x y kids) (Pr.node op' t' n' x' y' kids') = (((decide (op' = 1) || decide (op = 2)) || Pr.same (Pr.node op t n x y kids) (Pr.node op' t' n' x' y' kids')) || (Pr.listsB (Pr.node op t n x y kids) (Pr.node op' t' n' x' y' kids') || Pr.restB (Pr.node op t n x y kids) (Pr.node op' t' n' x' y' kids'))) from Pr.seenB_eq _ _)
    have hr := Pr.restB_node op t n x y kids op' t' n' x' y' kids'
    unfold maxLen at hc hc'
    have HC := Lib.hid hcell
    have HR := Lib.hid hrec
    have HN := Lib.hid hn
    have HC' := Lib.hid hcell'
    have HR' := Lib.hid hrec'
    have HN' := Lib.hid hn'
    have HT := Lib.hid ht
    have HT' := Lib.hid ht'
    have HPA := Lib.hid hp
    have HQA := Lib.hid hq
    have HF1 := Lib.hid hlists
    have HF2 := Lib.hid hrest
    have HF3 := Lib.hid hrest2
    have HF4 := Lib.hid hr
    have HF5 := Lib.hid h10
    clear hL hM hcell hrec hn hcell' hrec' hn' ht ht' hp hq hlists hrest hrest2 hr h10 ih
    generalize hlen : kids.length = len at *
    have HLEN := Lib.hid hlen
    generalize hlen' : kids'.length = len' at *
    have HLEN' := Lib.hid hlen'
    clear hlen hlen'
    generalize Pr.seenB (Pr.node op t n x y kids) (Pr.node op' t' n' x' y' kids') = res at *
    generalize Pr.same (Pr.node op t n x y kids) (Pr.node op' t' n' x' y' kids') = sm at *
    generalize Pr.listsB (Pr.node op t n x y kids) (Pr.node op' t' n' x' y' kids') = ls at *
    generalize Pr.restB (Pr.node op t n x y kids) (Pr.node op' t' n' x' y' kids') = rs at *
    have G1 := Lib.hid ((Has.new w #[.int .i64 op, .string t, .int .i64 n, .complex .f64 x y, .slice oa len cap] 44).alloc (.cells #[.int .i64 op', .string t', .int .i64 n', .complex .f64 x' y', .slice oa' len' cap'] 44))
    have G2 := Lib.hid (Own.newAt (w.alloc (.cells #[.int .i64 op, .string t, .int .i64 n, .complex .f64 x y, .slice oa len cap] 44)) #[.int .i64 op', .string t', .int .i64 n', .complex .f64 x' y', .slice oa' len' cap'] 44 (b := w.heap.size + 1) (by simp)).has
    have BW := Lib.hid (((Below.refl w.heap.size w).alloc (Nat.le_refl _) (.cells #[.int .i64 op, .string t, .int .i64 n, .complex .f64 x y, .slice oa len cap] 44)).alloc (by simp) (.cells #[.int .i64 op', .string t', .int .i64 n', .complex .f64 x' y', .slice oa' len' cap'] 44))
    have SMa := Lib.hid (SM ((w.alloc (.cells #[.int .i64 op, .string t, .int .i64 n, .complex .f64 x y, .slice oa len cap] 44)).alloc (.cells #[.int .i64 op', .string t', .int .i64 n', .complex .f64 x' y', .slice oa' len' cap'] 44)) (HLp.out.later BW.out (Nat.le_refl _)) (HLq.out.later BW.out (Nat.le_refl _)))
    clear SM
    go_enter Tryz.func118, Tryz.ntmps118
    by_cases q1 : op' = 1
    · have E := Lib.hid (show res = true by rw [HE.out, q1]; simp)
      subst q1
      go_wp2_with fail
      go_ret
      exact ⟨ret_bool E.out.symm, BW.out⟩
    by_cases p2 : op = 2
    · have E := Lib.hid (show res = true by rw [HE.out, p2]; simp)
      subst p2
      go_wp2_with fail
      go_ret
      exact ⟨ret_bool E.out.symm, BW.out⟩
    have gq1 : (op' == 1) = false := by rw [beq_eq_false_iff_ne]; exact q1
    have gp2 : (op == 2) = false := by rw [beq_eq_false_iff_ne]; exact p2
    go_wp2_with fail
    refine SMa.out.mono ?_
    rintro e w1 ⟨rfl, hb⟩
    replace BW := Lib.hid (BW.out.trans (hb.mono BW.out.size))
    replace G1 := Lib.hid (G1.out.below hb G1.out.lt)
    replace G2 := Lib.hid (G2.out.below hb G2.out.lt)
    have LIa := Lib.hid (LI w1 (HLp.out.later BW.out (Nat.le_refl _)) (HLq.out.later BW.out (Nat.le_refl _)))
    clear hb LI SMa
    cases sm
    case true =>
      have E := Lib.hid (show res = true by rw [HE.out]; simp)
      go_wp2_with fail
      go_ret
      exact ⟨ret_bool E.out.symm, BW.out⟩
    have HE1 := Lib.hid (show res = (ls || rs) by rw [HE.out, decide_eq_false q1, decide_eq_false p2]; simp)
    clear HE
    have l1 := G1.out.cell
    have l2 := G2.out.cell
    have z1 := G1.out.lt
    have z2 := G2.out.lt
    by_cases p8 : op = 8
    · subst p8
      go_wp2_with fail
      refine LIa.out.mono ?_
      rintro e w2 ⟨rfl, hb⟩
      replace BW := Lib.hid (BW.out.trans (hb.mono BW.out.size))
      replace G1 := Lib.hid (G1.out.below hb G1.out.lt)
      replace G2 := Lib.hid (G2.out.below hb G2.out.lt)
      clear hb l1 l2 z1 z2
      cases ls
      case true =>
        have E := Lib.hid (show res = true by rw [HE1.out]; simp)
        go_wp2_with fail
        go_ret
        exact ⟨ret_bool E.out.symm, BW.out⟩
      have l1 := G1.out.cell
      have l2 := G2.out.cell
      have z1 := G1.out.lt
      have z2 := G2.out.lt
      by_cases e : op' = 8
      · subst e
        have E := Lib.hid (show res = false by rw [HE1.out, HF3.out (by omega) (by omega) (by omega) (by omega) (by omega)]; rfl)
        go_wp2_with fail
        go_ret
        exact ⟨ret_bool E.out.symm, BW.out⟩
      · have ne : ¬ ((8 : Int) = op') := fun h => e h.symm
        have E := Lib.hid (show res = false by rw [HE1.out, HF2.out (by omega)]; rfl)
        go_wp2_with fail
        go_ret
        exact ⟨ret_bool E.out.symm, BW.out⟩
    by_cases p9 : op = 9
    · subst p9
      go_wp2_with fail
      refine LIa.out.mono ?_
      rintro e w2 ⟨rfl, hb⟩
      replace BW := Lib.hid (BW.out.trans (hb.mono BW.out.size))
      replace G1 := Lib.hid (G1.out.below hb G1.out.lt)
      replace G2 := Lib.hid (G2.out.below hb G2.out.lt)
      clear hb l1 l2 z1 z2
      cases ls
      case true =>
        have E := Lib.hid (show res = true by rw [HE1.out]; simp)
        go_wp2_with fail
        go_ret
        exact ⟨ret_bool E.out.symm, BW.out⟩
      have l1 := G1.out.cell
      have l2 := G2.out.cell
      have z1 := G1.out.lt
      have z2 := G2.out.lt
      by_cases e : op' = 9
      · subst e
        have E := Lib.hid (show res = false by rw [HE1.out, HF3.out (by omega) (by omega) (by omega) (by omega) (by omega)]; rfl)
        go_wp2_with fail
        go_ret
        exact ⟨ret_bool E.out.symm, BW.out⟩
      · have ne : ¬ ((9 : Int) = op') := fun h => e h.symm
        have E := Lib.hid (show res = false by rw [HE1.out, HF2.out (by omega)]; rfl)
        go_wp2_with fail
        go_ret
        exact ⟨ret_bool E.out.symm, BW.out⟩
    by_cases q8 : op' = 8
    · subst q8
      go_wp2_with fail
      refine LIa.out.mono ?_
      rintro e w2 ⟨rfl, hb⟩
      replace BW := Lib.hid (BW.out.trans (hb.mono BW.out.size))
      replace G1 := Lib.hid (G1.out.below hb G1.out.lt)
      replace G2 := Lib.hid (G2.out.below hb G2.out.lt)
      clear hb l1 l2 z1 z2
      cases ls
      case true =>
        have E := Lib.hid (show res = true by rw [HE1.out]; simp)
        go_wp2_with fail
        go_ret
        exact ⟨ret_bool E.out.symm, BW.out⟩
      have l1 := G1.out.cell
      have l2 := G2.out.cell
      have z1 := G1.out.lt
      have z2 := G2.out.lt
      have E := Lib.hid (show res = false by rw [HE1.out, HF2.out (by omega)]; rfl)
      go_wp2_with fail
      go_ret
      exact ⟨ret_bool E.out.symm, BW.out⟩
    by_cases q9 : op' = 9
    · subst q9
      go_wp2_with fail
      refine LIa.out.mono ?_
      rintro e w2 ⟨rfl, hb⟩
      replace BW := Lib.hid (BW.out.trans (hb.mono BW.out.size))
      replace G1 := Lib.hid (G1.out.below hb G1.out.lt)
      replace G2 := Lib.hid (G2.out.below hb G2.out.lt)
      clear hb l1 l2 z1 z2
      cases ls
      case true =>
        have E := Lib.hid (show res = true by rw [HE1.out]; simp)
        go_wp2_with fail
        go_ret
        exact ⟨ret_bool E.out.symm, BW.out⟩
      have l1 := G1.out.cell
      have l2 := G2.out.cell
      have z1 := G1.out.lt
      have z2 := G2.out.lt
      have E := Lib.hid (show res = false by rw [HE1.out, HF2.out (by omega)]; rfl)
      go_wp2_with fail
      go_ret
      exact ⟨ret_bool E.out.symm, BW.out⟩
    have gp8 : (op == 8) = false := by rw [beq_eq_false_iff_ne]; exact p8
    have gp9 : (op == 9) = false := by rw [beq_eq_false_iff_ne]; exact p9
    have gq8 : (op' == 8) = false := by rw [beq_eq_false_iff_ne]; exact q8
    have gq9 : (op' == 9) = false := by rw [beq_eq_false_iff_ne]; exact q9
    have HE2 := Lib.hid (show res = rs by rw [HE1.out, HF1.out p8 p9 q8 q9]; rfl)
    clear HE1 LIa
    by_cases e : op' = op
    case neg =>
      have ne : ¬ (op = op') := fun h => e h.symm
      have gne : (op != op') = true := by rw [bne_iff_ne]; exact ne
      have E := Lib.hid (show res = false by rw [HE2.out, HF2.out ne])
      go_wp2_with fail
      go_ret
      exact ⟨ret_bool E.out.symm, BW.out⟩
    subst e
    have hop : op' = 4 ∨ op' = 5 ∨ op' = 6 ∨ op' = 7 ∨ op' = 10 ∨ (op' ≠ 4 ∧ op' ≠ 5 ∧ op' ≠ 6 ∧ op' ≠ 7 ∧ op' ≠ 10) := by omega
    rcases hop with rfl | rfl | rfl | rfl | rfl | ⟨n4, n5, n6, n7, n10⟩
    · have E := Lib.hid (show res = begB t t' by rw [HE2.out, HF4.out]; simp)
      have C := fun w => Lib.hid (begins_calls t t' w HT.out HT'.out)
      go_wp2_with (go_at_call 65; refine (C _).out.mono ?_; rintro e w' ⟨rfl, hb'⟩)
      go_ret
      exact ⟨ret_bool E.out.symm, BW.out.trans (hb'.mono BW.out.size)⟩
    · have E := Lib.hid (show res = decide (n ≤ n') by rw [HE2.out, HF4.out]; simp)
      go_wp2_with fail
      all_goals
        go_ret
        exact ⟨ret_bool (by rw [E.out]; first | done | (rw [Bool.eq_iff_iff]; simp; done) | (simp_all; done)), BW.out⟩
    · have E := Lib.hid (show res = decide (n' ≤ n) by rw [HE2.out, HF4.out]; simp)
      go_wp2_with fail
      all_goals
        go_ret
        exact ⟨ret_bool (by rw [E.out]; first | done | (rw [Bool.eq_iff_iff]; simp; done) | (simp_all; done)), BW.out⟩
    · have E := Lib.hid (show res = (feq x x' && (feq y y' && decide (n ≤ n'))) by rw [HE2.out, HF4.out]; simp)
      have f1 : ∀ x y, (FloatKind.f64.format.order x y == some .eq) = feq x y := fun _ _ => rfl
      generalize hfx : feq x x' = fx at *
      generalize hfy : feq y y' = fy at *
      cases fx <;> cases fy
      all_goals
        go_wp2_with fail
        all_goals
          go_ret
          exact ⟨ret_bool (by rw [E.out]; first | done | (simp; done) | (rw [Bool.eq_iff_iff]; simp; done) | (simp_all; done)), BW.out⟩
    · obtain ⟨a, c, ka, kc⟩ := HF5.out rfl rfl
      subst ka kc
      have hla := HLEN.out
      have hlc := HLEN'.out
      simp only [List.length_cons, List.length_nil, Nat.zero_add] at hla hlc
      subst hla hlc
      have E := Lib.hid (show res = Pr.seenB c a by rw [HE2.out, HF4.out]; simp [Pr.kidB])
      obtain ⟨rfl, hB⟩ := HN.out (by omega)
      obtain ⟨rfl, hB'⟩ := HN'.out (by omega)
      obtain ⟨od, cd, hV⟩ := lies_val (HR.out 0 a rfl)
      obtain ⟨od', cd', hV'⟩ := lies_val (HR'.out 0 c rfl)
      obtain ⟨c0, c1, c2, c3, c4⟩ := pc_cells (w := w1) (fun j u hu => (BW.out.cell (p := ⟨b, o + 0 * 5 + j, none⟩) hB).trans (HC.out 0 a rfl j u hu))
      obtain ⟨d0, d1, d2, d3, d4⟩ := pc_cells (w := w1) (fun j u hu => (BW.out.cell (p := ⟨b', o' + 0 * 5 + j, none⟩) hB').trans (HC'.out 0 c rfl j u hu))
      have L0 := (HR.out 0 a rfl).later BW.out (Nat.le_refl _)
      have M0 := (HR'.out 0 c rfl).later BW.out (Nat.le_refl _)
      rw [hV] at c4 L0
      rw [hV'] at d4 M0
      have ha9 : a.all = true := Pr.alls_iff.1 (Pr.all_kids HPA.out) a (by simp [Pr.kids])
      have hc9 : c.all = true := Pr.alls_iff.1 (Pr.all_kids HQA.out) c (by simp [Pr.kids])
      have hsz9 : c.size + a.size ≤ N := by
        have e1 := Pr.kid_size (p := .node 10 t n x y [a]) (k := a) (by simp [Pr.kids])
        have e2 := Pr.kid_size (p := .node 10 t' n' x' y' [c]) (k := c) (by simp [Pr.kids])
        omega
      have CC := fun dd os => HI.out c a hsz9 (.slice od' c.kids.length cd') (.slice od a.kids.length cd) (Sort.grow (redrawn w1 dd) os) (M0.later (below_regrown _ _ _) (Nat.le_refl _)) (L0.later (below_regrown _ _ _) (Nat.le_refl _)) hc9 ha9
      have r0 := fun dd os => cell_regrown c0 dd os
      have r1 := fun dd os => cell_regrown c1 dd os
      have r2 := fun dd os => cell_regrown c2 dd os
      have r3 := fun dd os => cell_regrown c3 dd os
      have r4 := fun dd os => cell_regrown c4 dd os
      have s0 := fun dd os => cell_regrown d0 dd os
      have s1 := fun dd os => cell_regrown d1 dd os
      have s2 := fun dd os => cell_regrown d2 dd os
      have s3 := fun dd os => cell_regrown d3 dd os
      have s4 := fun dd os => cell_regrown d4 dd os
      simp only [Nat.zero_mul, Nat.add_zero] at r0 r1 r2 r3 r4 s0 s1 s2 s3 s4
      have LA := fun dd os o => G1.out.regrown dd os o
      have LB := fun dd os o => G2.out.regrown dd os o
      have m3 := fun dd os => Lib.hid (Calls.regrown_of (CC dd os))
      generalize Pr.seenB c a = sv at *
      clear hV hV' L0 M0 CC
      go_wp2_with fail
      refine wp_region_quiet_below (by kernel_rfl) (by kernel_rfl) ?_
      repeat (first | go_big_quiet_step ((with_reducible exact (m3 _ _).out)) | quiet_step (with_reducible exact (m3 _ _).out))
      refine wpQuiet_nil ?_
      intro w7 hw'
      have hb' := Lib.hid (regrown_below hw')
      clear hw' m3 r0 r1 r2 r3 r4 s0 s1 s2 s3 s4 LA LB
      go_wp2_with fail
      go_ret
      exact ⟨ret_bool E.out.symm, BW.out.trans (hb'.out.mono BW.out.size)⟩
    · have E := Lib.hid (show res = false by rw [HE2.out, HF3.out n4 n5 n6 n7 n10])
      have gn4 : (op' == 4) = false := by rw [beq_eq_false_iff_ne]; exact n4
      have gn5 : (op' == 5) = false := by rw [beq_eq_false_iff_ne]; exact n5
      have gn6 : (op' == 6) = false := by rw [beq_eq_false_iff_ne]; exact n6
      have gn7 : (op' == 7) = false := by rw [beq_eq_false_iff_ne]; exact n7
      have gn10 : (op' == 10) = false := by rw [beq_eq_false_iff_ne]; exact n10
      go_wp2_with fail
      go_ret
      exact ⟨ret_bool E.out.symm, BW.out⟩
set_option maxHeartbeats 2000000 in
theorem refIn_calls (p q : Pr) (v v' : Value) (w : World) (hL : LP w p v) (hM : LP w q v') (h1 : p.size ≤ 1000) (h2 : q.size ≤ 1000) :
    Calls Tryz.prog 61 #[.agg #[.int .i64 p.op, .string p.text, .int .i64 p.n, .complex .f64 p.x p.y, v], .agg #[.int .i64 q.op, .string q.text, .int .i64 q.n, .complex .f64 q.x q.y, v']] w fun e w' => e = .returned (.bool (Pr.inB p q)) ∧ Below w.heap.size w w' := by
  obtain ⟨oa, ca, rfl⟩ := lies_val hL
  obtain ⟨ob, cb, rfl⟩ := lies_val hM
  have OA := Lib.hid ((Own.new w #[.int .i64 p.op, .string p.text, .int .i64 p.n, .complex .f64 p.x p.y, .slice oa p.kids.length ca] 44).alloc (.cells #[.int .i64 q.op, .string q.text, .int .i64 q.n, .complex .f64 q.x q.y, .slice ob q.kids.length cb] 44))
  have OB := Lib.hid (Own.newAt (w.alloc (.cells #[.int .i64 p.op, .string p.text, .int .i64 p.n, .complex .f64 p.x p.y, .slice oa p.kids.length ca] 44)) #[.int .i64 q.op, .string q.text, .int .i64 q.n, .complex .f64 q.x q.y, .slice ob q.kids.length cb] 44 (b := w.heap.size + 1) (by simp))
  have BEL := Lib.hid (((Below.refl w.heap.size w).alloc (Nat.le_refl _) (.cells #[.int .i64 p.op, .string p.text, .int .i64 p.n, .complex .f64 p.x p.y, .slice oa p.kids.length ca] 44)).alloc (by simp) (.cells #[.int .i64 q.op, .string q.text, .int .i64 q.n, .complex .f64 q.x q.y, .slice ob q.kids.length cb] 44))
  have LA := Lib.hid (hL.later BEL.out (Nat.le_refl _))
  have LB := Lib.hid (hM.later BEL.out (Nat.le_refl _))
  clear hL hM
  have e : Pr.inB p q = ((p.mayB && q.mayB) && Pr.seenB p q) := rfl
  generalize hmp : p.mayB = mp at *
  generalize hmq : q.mayB = mq at *
  rw [e]
  clear e
  have M1 := fun w h => Lib.hid (refMay3_calls p (.slice oa p.kids.length ca) w h h1)
  have M2 := fun w h => Lib.hid (refMay3_calls q (.slice ob q.kids.length cb) w h h2)
  rw [hmp] at M1
  rw [hmq] at M2
  go_enter Tryz.func61, Tryz.ntmps61
  go_wp2_with fail
  refine (M1 _ LA.out).out.mono ?_; rintro e w1 ⟨rfl, hb⟩
  replace OA := Lib.hid (OA.out.later hb)
  replace OB := Lib.hid (OB.out.later hb)
  replace LA := Lib.hid (LA.out.later hb (Nat.le_refl _))
  replace LB := Lib.hid (LB.out.later hb (Nat.le_refl _))
  replace BEL := Lib.hid (BEL.out.trans (hb.mono BEL.out.size))
  clear hb
  have l1 := OA.out.cell
  have l2 := OB.out.cell
  have z1 := OA.out.lt
  have z2 := OB.out.lt
  go_wp2_with fail
  refine (M2 _ LB.out).out.mono ?_; rintro e w2 ⟨rfl, hb⟩
  clear l1 l2 z1 z2
  replace OA := Lib.hid (OA.out.later hb)
  replace OB := Lib.hid (OB.out.later hb)
  replace LA := Lib.hid (LA.out.later hb (Nat.le_refl _))
  replace LB := Lib.hid (LB.out.later hb (Nat.le_refl _))
  replace BEL := Lib.hid (BEL.out.trans (hb.mono BEL.out.size))
  clear hb
  have l1 := OA.out.cell
  have l2 := OB.out.cell
  have z1 := OA.out.lt
  have z2 := OB.out.lt
  cases mp
  case false =>
    go_wp2_with fail
    go_ret
    exact ⟨ret_bool (by simp), BEL.out⟩
  cases mq
  case false =>
    go_wp2_with fail
    go_ret
    exact ⟨ret_bool (by simp), BEL.out⟩
  have S := Lib.hid (seen_any _ p q (Nat.le_refl _) (.slice oa p.kids.length ca) (.slice ob q.kids.length cb) w2 LA.out LB.out (fits_true.1 hmp).2.2 (fits_true.1 hmq).2.2)
  go_wp2_with fail
  refine S.out.mono ?_; rintro e w3 ⟨rfl, hb⟩
  go_wp2_with fail
  go_ret
  exact ⟨ret_bool (by simp), BEL.out.trans (hb.mono BEL.out.size)⟩
end Go.Proofs.YthbjgfennclidaaGreat
