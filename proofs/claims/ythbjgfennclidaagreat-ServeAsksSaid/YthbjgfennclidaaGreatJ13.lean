/- Joined: RefSize, RefHas, Fits, RefHasK, Zero. -/
import Derived.Test.YthbjgfennclidaaGreatJ12
import Derived.Test.YthbjgfennclidaaGreatJ09
import Derived.Test.YthbjgfennclidaaGreatJ01
import Derived.Deep.CutBlock
import Derived.Deep.DeepCutAuto
import Derived.Test.YthbjgfennclidaaGreatJ07
import Derived.Test.YthbjgfennclidaaGreatJ10
/- How large and how deep a filter is: the document's answer, walked. -/
namespace Go.Proofs.YthbjgfennclidaaGreat
set_option linter.unusedVariables false
set_option linter.unusedSimpArgs false
set_option maxRecDepth 100000
open Go.RowKit
set_option maxHeartbeats 1000000 in
theorem refSize_calls (p : Pr) : ∀ (v : Value) (w : World), LP w p v → p.size ≤ 1000 →
    Calls Tryz.prog 100 #[.agg #[.int .i64 p.op, .string p.text, .int .i64 p.n, .complex .f64 p.x p.y, v]] w fun e w' => e = .returned (.int .i64 (p.size : Nat)) ∧ Below w.heap.size w w' := by
  induction p using Pr.ind with
  | h op t n x y kids ih =>
    intro v w hL hsz
    obtain ⟨oa, cap, b, o, V, rfl, ht, hl, hc, hn, hcell, hrec⟩ := lies_slice hL
    simp only [Pr.kids_node, Pr.text_node, Pr.op_node, Pr.n_node, Pr.x_node, Pr.y_node, Pr.size, Pr.depth] at *
    unfold maxLen at hc
    have h1000 := Pr.len_le_sizes kids
    have HC := Lib.hid hcell
    have HR := Lib.hid hrec
    have HN := Lib.hid hn
    have HI := Lib.hid ih
    clear hL hcell hrec hn ih
    generalize hlen : kids.length = len at *
    have HLEN := Lib.hid hlen
    clear hlen
    go_enter Tryz.func100, Tryz.ntmps100
    go_wp2_with fail
    go_loopw [3, 4] (fun n' i wr => SumRel kids len (fun l => 1 + Pr.sizes l) (w.alloc (.cells #[.int .i64 op, .string t, .int .i64 n, .complex .f64 x y, .slice oa len cap] 44)) n' i wr) (fun _ i _ => len - (intOf i).toNat)
    case atStart => exact ⟨0, 1, Nat.zero_le _, rfl, rfl, by omega, by simp [Hid, Pr.sizes, Pr.depths], Below.refl _ _⟩
    case round =>
      obtain ⟨k, s, hk, rfl, rfl, hs, HS, hb⟩ := hrel
      have g := (Has.new w #[.int .i64 op, .string t, .int .i64 n, .complex .f64 x y, .slice oa len cap] 44).below hb (by simp)
      by_cases hlt : k < len
      · obtain ⟨q, hq⟩ : ∃ q, kids[k]? = some q := ⟨_, List.getElem?_eq_getElem (by rw [HLEN.out]; exact hlt)⟩
        obtain ⟨rfl, hB⟩ := HN.out (by omega)
        obtain ⟨oq, cq, hV⟩ := lies_val (HR.out k q hq)
        have hbw : Below w.heap.size w wr := ((Below.refl _ _).alloc (Nat.le_refl _) _).trans (hb.mono (by simp))
        obtain ⟨c0, c1, c2, c3, c4⟩ := pc_cells (w := wr) (fun j u hu => (hbw.cell (p := ⟨b, o + k * 5 + j, none⟩) hB).trans (HC.out k q hq j u hu))
        have L0 := (HR.out k q hq).later hbw (Nat.le_refl _)
        rw [hV] at c4 L0
        have hqs := Pr.size_mem (List.mem_of_getElem? hq)
        have hqd := Pr.depth_le_size q
        have CC := fun w' h => Lib.hid (HI.out q (List.mem_of_getElem? hq) (.slice oq q.kids.length cq) w' h (by omega))
        have L1 := fun ob => Lib.hid (L0.atAlloc ob)
        have LW := Lib.hid L0
        have h3 := Pr.sizes_take hq
        have h4 := Pr.sizes_take_le kids (k + 1)
        have h5 := Pr.depths_take hq
        have h7 := Pr.depth_le_size (.node op t n x y kids)
        have h8 := Pr.depths_take_le kids (k + 1)
        simp only [Pr.size, Pr.depth] at h7
        have h6 : s = 1 + Pr.sizes (kids.take k) := HS.out
        have hs1 : s + q.size ≤ 1000 := by rw [h3] at h4; omega
        have HS1 := Lib.hid (show s + q.size = 1 + Pr.sizes (kids.take (k + 1)) by rw [h3]; omega)
        have HB := Lib.hid hb
        have HQ := Lib.hid hq
        clear hb hbw hq L0 h3 h4 h5 h6 h7 h8 hV
        have l := g.cell
        have z := g.lt
        clear g
        go_wp2_with (go_at_call 100; refine (CC _ LW.out).out.mono ?_; rintro e w' ⟨rfl, hb'⟩)
        all_goals
          go_roundw
          case rel => exact ⟨k + 1, s + q.size, by omega, by go_num, by go_num, by omega, HS1.out, HB.out.trans (hb'.mono HB.out.size)⟩
          case measure => simp [intOf]; omega
      · have HB := Lib.hid hb
        clear hb
        have l := g.cell
        have z := g.lt
        clear g
        have e : k = len := by omega
        have h5 : s = 1 + Pr.sizes (kids.take k) := HS.out
        rw [Pr.take_all kids (by rw [HLEN.out]; omega)] at h5
        have H5 := Lib.hid h5
        clear h5 e
        go_wp2_with fail
        go_ret
        have h5 := H5.out
        exact ⟨ret_int (by rw [h5]; omega), below_new HB.out⟩
set_option maxHeartbeats 1000000 in
theorem refDepth_calls (p : Pr) : ∀ (v : Value) (w : World), LP w p v → p.size ≤ 1000 →
    Calls Tryz.prog 101 #[.agg #[.int .i64 p.op, .string p.text, .int .i64 p.n, .complex .f64 p.x p.y, v]] w fun e w' => e = .returned (.int .i64 (p.depth : Nat)) ∧ Below w.heap.size w w' := by
  induction p using Pr.ind with
  | h op t n x y kids ih =>
    intro v w hL hsz
    obtain ⟨oa, cap, b, o, V, rfl, ht, hl, hc, hn, hcell, hrec⟩ := lies_slice hL
    simp only [Pr.kids_node, Pr.text_node, Pr.op_node, Pr.n_node, Pr.x_node, Pr.y_node, Pr.size, Pr.depth] at *
    unfold maxLen at hc
    have h1000 := Pr.len_le_sizes kids
    have HC := Lib.hid hcell
    have HR := Lib.hid hrec
    have HN := Lib.hid hn
    have HI := Lib.hid ih
    clear hL hcell hrec hn ih
    generalize hlen : kids.length = len at *
    have HLEN := Lib.hid hlen
    clear hlen
    go_enter Tryz.func101, Tryz.ntmps101
    go_wp2_with fail
    go_loopw [3, 4] (fun n' i wr => SumRel kids len (fun l => 1 + Pr.depths l) (w.alloc (.cells #[.int .i64 op, .string t, .int .i64 n, .complex .f64 x y, .slice oa len cap] 44)) n' i wr) (fun _ i _ => len - (intOf i).toNat)
    case atStart => exact ⟨0, 1, Nat.zero_le _, rfl, rfl, by omega, by simp [Hid, Pr.sizes, Pr.depths], Below.refl _ _⟩
    case round =>
      obtain ⟨k, s, hk, rfl, rfl, hs, HS, hb⟩ := hrel
      have g := (Has.new w #[.int .i64 op, .string t, .int .i64 n, .complex .f64 x y, .slice oa len cap] 44).below hb (by simp)
      by_cases hlt : k < len
      · obtain ⟨q, hq⟩ : ∃ q, kids[k]? = some q := ⟨_, List.getElem?_eq_getElem (by rw [HLEN.out]; exact hlt)⟩
        obtain ⟨rfl, hB⟩ := HN.out (by omega)
        obtain ⟨oq, cq, hV⟩ := lies_val (HR.out k q hq)
        have hbw : Below w.heap.size w wr := ((Below.refl _ _).alloc (Nat.le_refl _) _).trans (hb.mono (by simp))
        obtain ⟨c0, c1, c2, c3, c4⟩ := pc_cells (w := wr) (fun j u hu => (hbw.cell (p := ⟨b, o + k * 5 + j, none⟩) hB).trans (HC.out k q hq j u hu))
        have L0 := (HR.out k q hq).later hbw (Nat.le_refl _)
        rw [hV] at c4 L0
        have hqs := Pr.size_mem (List.mem_of_getElem? hq)
        have hqd := Pr.depth_le_size q
        have CC := fun w' h => Lib.hid (HI.out q (List.mem_of_getElem? hq) (.slice oq q.kids.length cq) w' h (by omega))
        have L1 := fun ob => Lib.hid (L0.atAlloc ob)
        have LW := Lib.hid L0
        have h3 := Pr.sizes_take hq
        have h4 := Pr.sizes_take_le kids (k + 1)
        have h5 := Pr.depths_take hq
        have h7 := Pr.depth_le_size (.node op t n x y kids)
        have h8 := Pr.depths_take_le kids (k + 1)
        simp only [Pr.size, Pr.depth] at h7
        have h6 : s = 1 + Pr.depths (kids.take k) := HS.out
        have hs1 : max s (1 + q.depth) ≤ 1000 := by rw [h5] at h8; omega
        have HS1 := Lib.hid (show max s (1 + q.depth) = 1 + Pr.depths (kids.take (k + 1)) by rw [h5]; omega)
        have HB := Lib.hid hb
        have HQ := Lib.hid hq
        clear hb hbw hq L0 h3 h4 h5 h6 h7 h8 hV
        have l := g.cell
        have z := g.lt
        clear g
        go_wp2_with (go_at_call 101; refine (CC _ LW.out).out.mono ?_; rintro e w' ⟨rfl, hb'⟩)
        all_goals
          go_roundw
          case rel => exact ⟨k + 1, max s (1 + q.depth), by omega, by go_num, by go_num, by omega, HS1.out, HB.out.trans (hb'.mono HB.out.size)⟩
          case measure => simp [intOf]; omega
      · have HB := Lib.hid hb
        clear hb
        have l := g.cell
        have z := g.lt
        clear g
        have e : k = len := by omega
        have h5 : s = 1 + Pr.depths (kids.take k) := HS.out
        rw [Pr.take_all kids (by rw [HLEN.out]; omega)] at h5
        have H5 := Lib.hid h5
        clear h5 e
        go_wp2_with fail
        go_ret
        have h5 := H5.out
        exact ⟨ret_int (by rw [h5]; omega), below_new HB.out⟩
end Go.Proofs.YthbjgfennclidaaGreat
/- Which items a filter has: the document's answer, walked. -/
namespace Go.Proofs.YthbjgfennclidaaGreat
set_option linter.unusedVariables false
set_option linter.unusedSimpArgs false
set_option maxRecDepth 100000
open Go.RowKit
def cntB (i : It) (l : List Pr) : Nat := (l.filter (Pr.hasB i)).length
theorem cnt_le (i : It) (l : List Pr) : cntB i l ≤ l.length := List.length_filter_le _ _
theorem cnt_snoc (i : It) {l : List Pr} {k : Nat} {q : Pr} (hq : l[k]? = some q) : cntB i (l.take (k + 1)) = cntB i (l.take k) + (if Pr.hasB i q = true then 1 else 0) := by
  rw [Pr.take_one hq]; unfold cntB; rw [List.filter_append]
  by_cases h : Pr.hasB i q = true <;> simp [List.filter_cons, h]
theorem cnt_all (i : It) (l : List Pr) : Pr.hasAll i l = decide (cntB i l = l.length) := by
  induction l with
  | nil => simp [Pr.hasAll, cntB]
  | cons a l ih =>
    have hl := cnt_le i l
    unfold cntB at *
    rw [Pr.hasAll, ih, List.filter_cons]
    cases h : Pr.hasB i a
    · simp; omega
    · simp
theorem cnt_any (i : It) (l : List Pr) : Pr.hasAny i l = decide (0 < cntB i l) := by
  induction l with
  | nil => simp [Pr.hasAny, cntB]
  | cons a l ih =>
    unfold cntB at *
    rw [Pr.hasAny, ih, List.filter_cons]
    cases h : Pr.hasB i a <;> simp
def HasRel (i : It) (l : List Pr) (len : Nat) (w0 : World) (many j : Value) (wr : World) : Prop :=
  ∃ (k m : Nat), k ≤ len ∧ j = .int .i64 k ∧ many = .int .i64 m ∧ m ≤ k ∧ Hid (m = cntB i (l.take k)) ∧ Below w0.heap.size w0 wr
set_option maxRecDepth 100000 in
set_option maxHeartbeats 4000000 in
theorem refHas_calls (i : It) (r c st : Int) (d : Bool) (hid : i.id.size ≤ maxLen) (p : Pr) : ∀ (v : Value) (w : World), LP w p v → p.size ≤ 1000 →
    Calls Tryz.prog 21 #[.agg #[.int .i64 p.op, .string p.text, .int .i64 p.n, .complex .f64 p.x p.y, v], .agg #[.string i.id, .int .i64 r, .int .i64 c, .int .i64 st, .string i.kd, .int .i64 i.num, .complex .f64 i.ax i.ay, .bool d]] w fun e w' => e = .returned (.bool (p.hasB i)) ∧ Below w.heap.size w w' := by
  induction p using Pr.ind with
  | h op t n x y kids ih =>
    intro v w hL hsz
    obtain ⟨oa, cap, b, o, V, rfl, ht, hl, hc, hn, hcell, hrec⟩ := lies_slice hL
    simp only [Pr.kids_node, Pr.text_node, Pr.op_node, Pr.n_node, Pr.x_node, Pr.y_node, Pr.size] at *
    unfold maxLen at hc
    have h1000 := Pr.len_le_sizes kids
    have HC := Lib.hid hcell
    have HR := Lib.hid hrec
    have HN := Lib.hid hn
    have HI := Lib.hid ih
    have HT := Lib.hid ht
    have HID := Lib.hid hid
    clear hL hcell hrec hn ih ht hid
    have HAll := Lib.hid (cnt_all i kids)
    have HAny := Lib.hid (cnt_any i kids)
    generalize hlen : kids.length = len at *
    have HLEN := Lib.hid hlen
    clear hlen
    generalize hres : Pr.hasB i (.node op t n x y kids) = res
    have HRES := Lib.hid hres
    clear hres
    go_enter Tryz.func21, Tryz.ntmps21
    go_wp2_with fail
    go_loopw [5, 6] (fun many j wr => HasRel i kids len ((w.alloc (.cells #[.int .i64 op, .string t, .int .i64 n, .complex .f64 x y, .slice oa len cap] 44)).alloc (.cells #[.string i.id, .int .i64 r, .int .i64 c, .int .i64 st, .string i.kd, .int .i64 i.num, .complex .f64 i.ax i.ay, .bool d] 68)) many j wr) (fun _ j _ => len - (intOf j).toNat)
    case atStart => exact ⟨0, 0, Nat.zero_le _, rfl, rfl, Nat.le_refl _, by simp [Hid, cntB], Below.refl _ _⟩
    case round =>
      obtain ⟨k, m, hk, rfl, rfl, hm, HM, hb⟩ := hrel
      have G1 := Lib.hid (((Has.new w #[.int .i64 op, .string t, .int .i64 n, .complex .f64 x y, .slice oa len cap] 44).alloc (.cells #[.string i.id, .int .i64 r, .int .i64 c, .int .i64 st, .string i.kd, .int .i64 i.num, .complex .f64 i.ax i.ay, .bool d] 68)).below hb (by simp; omega))
      have G2 := Lib.hid ((Own.newAt (w.alloc (.cells #[.int .i64 op, .string t, .int .i64 n, .complex .f64 x y, .slice oa len cap] 44)) #[.string i.id, .int .i64 r, .int .i64 c, .int .i64 st, .string i.kd, .int .i64 i.num, .complex .f64 i.ax i.ay, .bool d] 68 (b := w.heap.size + 1) (by simp)).has.below hb (by simp))
      by_cases hlt : k < len
      · obtain ⟨q, hq⟩ : ∃ q, kids[k]? = some q := ⟨_, List.getElem?_eq_getElem (by rw [HLEN.out]; exact hlt)⟩
        obtain ⟨rfl, hB⟩ := HN.out (by omega)
        obtain ⟨oq, cq, hV⟩ := lies_val (HR.out k q hq)
        have hbw : Below w.heap.size w wr := below_new (below_new hb)
        obtain ⟨c0, c1, c2, c3, c4⟩ := pc_cells (w := wr) (fun j u hu => (hbw.cell (p := ⟨b, o + k * 5 + j, none⟩) hB).trans (HC.out k q hq j u hu))
        have L0 := (HR.out k q hq).later hbw (Nat.le_refl _)
        rw [hV] at c4 L0
        have hqs := Pr.size_mem (List.mem_of_getElem? hq)
        have CC := fun dd os => HI.out q (List.mem_of_getElem? hq) (.slice oq q.kids.length cq) (Sort.grow (redrawn wr dd) os) (L0.later (below_regrown _ _ _) (Nat.le_refl _)) (by omega)
        have r0 := fun dd os => cell_regrown c0 dd os
        have r1 := fun dd os => cell_regrown c1 dd os
        have r2 := fun dd os => cell_regrown c2 dd os
        have r3 := fun dd os => cell_regrown c3 dd os
        have r4 := fun dd os => cell_regrown c4 dd os
        have LA := fun dd os o => G1.out.regrown dd os o
        have LB := fun dd os o => G2.out.regrown dd os o
        have l1 := G1.out.cell
        have HB := Lib.hid hb
        have h9 := cnt_snoc i hq
        cases hs : Pr.hasB i q
        · rw [hs] at CC h9
          have m3 := fun dd os => Lib.hid (Calls.regrown_of (CC dd os))
          have HM1 := Lib.hid (show m = cntB i (kids.take (k + 1)) by rw [h9, HM.out]; rfl)
          clear hb hV L0 hs hq CC hbw h9
          go_wp2_with fail
          refine wp_region_quiet_below (by kernel_rfl) (by kernel_rfl) ?_
          repeat (first | go_big_quiet_step ((with_reducible exact (m3 _ _).out)) | quiet_step (with_reducible exact (m3 _ _).out))
          refine wpQuiet_nil ?_
          intro w7 hw'
          have hb' := Lib.hid (regrown_below hw')
          clear hw'
          clear m3 r0 r1 r2 r3 r4 LA LB
          go_wp2_with fail
          go_roundw
          case rel => exact ⟨k + 1, m, by omega, by go_num, by go_num, by omega, HM1.out, HB.out.trans (hb'.out.mono HB.out.size)⟩
          case measure => simp [intOf]; omega
        · rw [hs] at CC h9
          have m3 := fun dd os => Lib.hid (Calls.regrown_of (CC dd os))
          have HM1 := Lib.hid (show m + 1 = cntB i (kids.take (k + 1)) by rw [h9, HM.out]; rfl)
          clear hb hV L0 hs hq CC hbw h9
          go_wp2_with fail
          refine wp_region_quiet_below (by kernel_rfl) (by kernel_rfl) ?_
          repeat (first | go_big_quiet_step ((with_reducible exact (m3 _ _).out)) | quiet_step (with_reducible exact (m3 _ _).out))
          refine wpQuiet_nil ?_
          intro w7 hw'
          have hb' := Lib.hid (regrown_below hw')
          clear hw'
          clear m3 r0 r1 r2 r3 r4 LA LB
          go_wp2_with fail
          go_roundw
          case rel => exact ⟨k + 1, m + 1, by omega, by go_num, by go_num, by omega, HM1.out, HB.out.trans (hb'.out.mono HB.out.size)⟩
          case measure => simp [intOf]; omega
      · have e : k = len := by omega
        subst e
        have hm9 := HM.out
        rw [Pr.take_all kids (by rw [HLEN.out]; omega)] at hm9
        have HM9 := Lib.hid hm9
        have HB := Lib.hid hb
        clear hm9 HM
        have hbe := HB.out
        have l1 := G1.out.cell
        have l2 := G2.out.cell
        have z1 := G1.out.lt
        have z2 := G2.out.lt
        have BE := Lib.hid (below_new (below_new hbe))
        clear hbe
        have hop : op = 1 ∨ op = 2 ∨ op = 3 ∨ op = 4 ∨ op = 5 ∨ op = 6 ∨ op = 7 ∨ op = 8 ∨ op = 9 ∨ op = 10 ∨ (op ≠ 1 ∧ op ≠ 2 ∧ op ≠ 3 ∧ op ≠ 4 ∧ op ≠ 5 ∧ op ≠ 6 ∧ op ≠ 7 ∧ op ≠ 8 ∧ op ≠ 9 ∧ op ≠ 10) := by omega
        rcases hop with rfl | rfl | rfl | rfl | rfl | rfl | rfl | rfl | rfl | rfl | ⟨n1, n2, n3, n4, n5, n6, n7, n8, n9, n10⟩
        · have E := Lib.hid (show res = true by rw [← HRES.out]; simp [Pr.hasB])
          clear hb
          go_wp2_with fail
          all_goals
            go_ret
            exact ⟨ret_bool (by rw [E.out]; first | done | (rw [Bool.eq_iff_iff]; simp; done) | (simp_all; done)), BE.out⟩
        · have E := Lib.hid (show res = false by rw [← HRES.out]; simp [Pr.hasB])
          clear hb
          go_wp2_with fail
          all_goals
            go_ret
            exact ⟨ret_bool (by rw [E.out]; first | done | (rw [Bool.eq_iff_iff]; simp; done) | (simp_all; done)), BE.out⟩
        · have E := Lib.hid (show res = decide (i.kd.toList = t.toList) by rw [← HRES.out]; simp [Pr.hasB])
          clear hb
          go_wp2_with fail
          all_goals
            go_ret
            exact ⟨ret_bool (by rw [E.out]; first | done | (rw [Bool.eq_iff_iff]; simp; done) | (simp_all; done)), BE.out⟩
        · have E := Lib.hid (show res = begB i.id t by rw [← HRES.out]; simp [Pr.hasB])
          have C := fun w => Lib.hid (begins_calls i.id t w HID.out HT.out)
          clear hb
          go_wp2_with (go_at_call 65; refine (C _).out.mono ?_; rintro e w' ⟨rfl, hb'⟩)
          go_ret
          exact ⟨ret_bool E.out.symm, BE.out.trans (hb'.mono BE.out.size)⟩
        · have E := Lib.hid (show res = decide (i.num < n) by rw [← HRES.out]; simp [Pr.hasB])
          clear hb
          go_wp2_with fail
          all_goals
            go_ret
            exact ⟨ret_bool (by rw [E.out]; first | done | (rw [Bool.eq_iff_iff]; simp; done) | (simp_all; done)), BE.out⟩
        · have E := Lib.hid (show res = decide (n ≤ i.num) by rw [← HRES.out]; simp [Pr.hasB])
          clear hb
          go_wp2_with fail
          all_goals
            go_ret
            exact ⟨ret_bool (by rw [E.out]; first | done | (rw [Bool.eq_iff_iff]; simp; done) | (simp_all; done)), BE.out⟩
        · have E := Lib.hid (show res = (decide (0 ≤ farV i.ax i.ay x y) && decide (farV i.ax i.ay x y ≤ n)) by rw [← HRES.out]; simp [Pr.hasB, nearB])
          have C := fun w => Lib.hid (refFar_calls i.ax i.ay x y w)
          generalize farV i.ax i.ay x y = fv at *
          clear hb
          go_wp2_with (go_at_call 66; refine (C _).out.mono ?_; rintro e w' ⟨rfl, rfl⟩)
          all_goals
            go_ret
            exact ⟨ret_bool (by rw [E.out]; first | (simp_all; done) | (simp_all; omega)), BE.out⟩
        · have E := Lib.hid (show res = decide (m = k) by rw [← HRES.out, HM9.out, ← HAll.out]; simp [Pr.hasB])
          clear hb
          go_wp2_with fail
          all_goals
            go_ret
            exact ⟨ret_bool (by rw [E.out]; try (rw [Bool.eq_iff_iff]; simp); try omega), BE.out⟩
        · have E := Lib.hid (show res = decide (0 < m) by rw [← HRES.out, HM9.out, ← HAny.out]; simp [Pr.hasB])
          clear hb
          go_wp2_with fail
          all_goals
            go_ret
            exact ⟨ret_bool (by rw [E.out]; try (rw [Bool.eq_iff_iff]; simp); try omega), BE.out⟩
        · by_cases h0 : k = 0
          · subst h0
            have E := Lib.hid (show res = false by rw [← HRES.out, List.length_eq_zero_iff.1 HLEN.out]; simp [Pr.hasB, Pr.hasNot])
            clear hb
            go_wp2_with fail
            go_ret
            exact ⟨ret_bool E.out.symm, BE.out⟩
          · have h0' : 0 < k := by omega
            clear l1
            obtain ⟨q, hq⟩ : ∃ q, kids[0]? = some q := ⟨_, List.getElem?_eq_getElem (by rw [HLEN.out]; omega)⟩
            obtain ⟨rfl, hB⟩ := HN.out (by omega)
            obtain ⟨oq, cq, hV⟩ := lies_val (HR.out 0 q hq)
            have hbw : Below w.heap.size w wr := below_new (below_new hb)
            obtain ⟨c0, c1, c2, c3, c4⟩ := pc_cells (w := wr) (fun j u hu => (hbw.cell (p := ⟨b, o + 0 * 5 + j, none⟩) hB).trans (HC.out 0 q hq j u hu))
            have L0 := (HR.out 0 q hq).later hbw (Nat.le_refl _)
            rw [hV] at c4 L0
            have hqs := Pr.size_mem (List.mem_of_getElem? hq)
            have CC := fun dd os => HI.out q (List.mem_of_getElem? hq) (.slice oq q.kids.length cq) (Sort.grow (redrawn wr dd) os) (L0.later (below_regrown _ _ _) (Nat.le_refl _)) (by omega)
            have r0 := fun dd os => cell_regrown c0 dd os
            have r1 := fun dd os => cell_regrown c1 dd os
            have r2 := fun dd os => cell_regrown c2 dd os
            have r3 := fun dd os => cell_regrown c3 dd os
            have r4 := fun dd os => cell_regrown c4 dd os
            have LA := fun dd os o => G1.out.regrown dd os o
            have LB := fun dd os o => G2.out.regrown dd os o
            have l1 := G1.out.cell
            have E := Lib.hid (show res = !(Pr.hasB i q) by
              rw [← HRES.out]
              match kids, hq with
              | a :: l, hq => simp at hq; subst hq; simp [Pr.hasB, Pr.hasNot])
            have m3 := fun dd os => Lib.hid (Calls.regrown_of (CC dd os))
            have hk0 : ((k : Int) == 0) = false := by simp; omega
            generalize Pr.hasB i q = rq at *
            clear hb hV L0 hq CC hbw
            simp only [Nat.zero_mul, Nat.add_zero] at r0 r1 r2 r3 r4
            go_wp2_with fail
            refine wp_region_quiet_below (by kernel_rfl) (by kernel_rfl) ?_
            repeat (first | go_big_quiet_step ((with_reducible exact (m3 _ _).out)) | quiet_step (with_reducible exact (m3 _ _).out))
            refine wpQuiet_nil ?_
            intro w7 hw'
            have hb' := Lib.hid (regrown_below hw')
            clear hw' m3 r0 r1 r2 r3 r4 LA LB
            go_wp2_with fail
            go_ret
            exact ⟨ret_bool E.out.symm, BE.out.trans (hb'.out.mono BE.out.size)⟩
        · have E := Lib.hid (show res = false by rw [← HRES.out]; simp [Pr.hasB, n1, n3, n4, n5, n6, n7, n8, n9, n10])
          clear hb
          go_wp2_with fail
          go_ret
          exact ⟨ret_bool E.out.symm, BE.out⟩
end Go.Proofs.YthbjgfennclidaaGreat
/- Whether a filter may be: the code's walks. -/
namespace Go.Proofs.YthbjgfennclidaaGreat
set_option linter.unusedVariables false
set_option linter.unusedSimpArgs false
set_option maxRecDepth 100000
open Go.RowKit
theorem fits_size {p : Pr} {s d : Int} (h : s < p.size) : p.fitsB s d = false := by
  unfold Pr.fitsB; simp; omega
theorem fits_depth {p : Pr} {s d : Int} (h : d < p.depth) : p.fitsB s d = false := by
  unfold Pr.fitsB; simp; omega
theorem fits_all {p : Pr} {s d : Int} (h : p.all = false) : p.fitsB s d = false := by
  unfold Pr.fitsB; simp [h]
theorem fits_true {p : Pr} {s d : Int} : p.fitsB s d = true ↔ (p.size : Int) ≤ s ∧ (p.depth : Int) ≤ d ∧ p.all = true := by
  unfold Pr.fitsB; simp
theorem alls_mem_false {l : List Pr} {q : Pr} (h : q ∈ l) (ha : q.all = false) : Pr.alls l = false := by
  cases e : Pr.alls l with
  | false => rfl
  | true => rw [Pr.all_mem h e] at ha; cases ha
theorem fits_kid {op : Int} {t : ByteArray} {n : Int} {x y : Nat} {kids : List Pr} {k : Nat} {q : Pr} {s d r : Int} (hq : kids[k]? = some q) (hr : s = r + 1 + (Pr.sizes (kids.take k) : Nat)) (h : q.fitsB r (d - 1) = false) :
    (Pr.node op t n x y kids).fitsB s d = false := by
  have h1 := Pr.sizes_take hq
  have h2 := Pr.sizes_take_le kids (k + 1)
  have h3 := Pr.depth_mem (List.mem_of_getElem? hq)
  by_cases c1 : (q.size : Int) ≤ r
  · by_cases c2 : (q.depth : Int) ≤ d - 1
    · refine fits_all ?_
      have c3 : q.all = false := by
        cases e : q.all with
        | false => rfl
        | true => rw [fits_true.2 ⟨c1, c2, e⟩] at h; cases h
      simp only [Pr.all]
      rw [alls_mem_false (List.mem_of_getElem? hq) c3]; simp
    · exact fits_depth (by simp only [Pr.depth]; omega)
  · exact fits_size (by simp only [Pr.size]; omega)
def FitRel (l : List Pr) (len : Nat) (s d : Int) (w0 : World) (left ok i : Value) (wr : World) : Prop :=
  ∃ (k : Nat) (r : Int), k ≤ len ∧ i = .int .i64 k ∧ left = .int .i64 r ∧ ok = .bool true ∧ 0 ≤ r ∧ r ≤ 30 ∧ Hid (s = r + 1 + (Pr.sizes (l.take k) : Nat)) ∧ Hid ((Pr.depths (l.take k) : Int) ≤ d - 1 ∧ Pr.alls (l.take k) = true) ∧ Below w0.heap.size w0 wr
def fitV (p : Pr) (s d : Int) : Ending := if p.fitsB s d = true then .returned (.tuple #[.int .i64 (s - p.size), .bool true]) else .returned (.tuple #[.int .i64 0, .bool false])
theorem fitV_false {p : Pr} {s d : Int} (h : p.fitsB s d = false) : fitV p s d = .returned (.tuple #[.int .i64 0, .bool false]) := by
  unfold fitV; rw [h]; rfl
theorem fitV_true {p : Pr} {s d : Int} (h : p.fitsB s d = true) : fitV p s d = .returned (.tuple #[.int .i64 (s - p.size), .bool true]) := by
  unfold fitV; rw [h]; rfl
set_option maxHeartbeats 2000000 in
theorem fits_calls (p : Pr) : ∀ (v : Value) (s d : Int) (w : World), LP w p v → 0 ≤ s → s ≤ 30 → 0 ≤ d → d ≤ 6 →
    Calls Tryz.prog 94 #[.agg #[.int .i64 p.op, .string p.text, .int .i64 p.n, .complex .f64 p.x p.y, v], .int .i64 s, .int .i64 d] w fun e w' => e = fitV p s d ∧ Below w.heap.size w w' := by
  induction p using Pr.ind with
  | h op t n x y kids ih =>
    intro v s d w hL hs0 hs1 hd0 hd1
    obtain ⟨oa, cap, b, o, V, rfl, ht, hl, hc, hn, hcell, hrec⟩ := lies_slice hL
    simp only [Pr.kids_node, Pr.text_node, Pr.op_node, Pr.n_node, Pr.x_node, Pr.y_node] at *
    unfold maxLen at hc
    have HC := Lib.hid hcell
    have HR := Lib.hid hrec
    have HN := Lib.hid hn
    have HI := Lib.hid ih
    clear hL hcell hrec hn ih
    by_cases e1 : s = 0
    · subst e1
      rw [fitV_false (fits_size (by simp only [Pr.size]; omega))]
      go_enter Tryz.func94, Tryz.ntmps94
      go_wp2_with fail
      go_ret2
      exact ⟨rfl, (Below.refl _ _).alloc (Nat.le_refl _) _⟩
    by_cases e2 : d = 0
    · subst e2
      rw [fitV_false (fits_depth (by simp only [Pr.depth]; omega))]
      have g1 : (s == 0) = false := by rw [beq_eq_false_iff_ne]; exact e1
      go_enter Tryz.func94, Tryz.ntmps94
      go_wp2_with fail
      go_ret2
      exact ⟨rfl, (Below.refl _ _).alloc (Nat.le_refl _) _⟩
    have g1 : (s == 0) = false := by rw [beq_eq_false_iff_ne]; exact e1
    have g2 : (d == 0) = false := by rw [beq_eq_false_iff_ne]; exact e2
    have hs2 : 1 ≤ s := by omega
    have hd2 : 1 ≤ d := by omega
    have P := fun w => predPart_calls op t n x y oa kids.length cap w
    cases hp : Pr.partB op t n x y kids.length
    · rw [hp] at P
      have P := fun w => Lib.hid (P w)
      rw [fitV_false (fits_all (by simp only [Pr.all]; rw [hp]; rfl))]
      clear hp
      go_enter Tryz.func94, Tryz.ntmps94
      go_wp2_with (go_at_call 147; refine (P _).out.mono ?_; rintro e w' ⟨rfl, hb⟩)
      go_ret2
      exact ⟨rfl, below_new hb⟩
    · rw [hp] at P
      have P := fun w => Lib.hid (P w)
      have HP := Lib.hid hp
      clear hp e1 e2
      generalize hlen : kids.length = len at *
      have HLEN := Lib.hid hlen
      clear hlen
      generalize hV0 : fitV (.node op t n x y kids) s d = E0
      have HV0 := Lib.hid hV0
      clear hV0
      go_enter Tryz.func94, Tryz.ntmps94
      go_wp2_with fail
      refine (P _).out.mono ?_; rintro e w1 ⟨rfl, hb1⟩
      have g := (Has.new w #[.int .i64 op, .string t, .int .i64 n, .complex .f64 x y, .slice oa len cap] 44).below hb1 (by simp)
      have HB1 := Lib.hid hb1
      clear hb1
      have l := g.cell
      have z := g.lt
      go_wp2_with fail
      clear l z
      go_loopw [8, 9, 28] (fun left ok i wr => FitRel kids len s d w1 left ok i wr) (fun _ _ i _ => len - (intOf i).toNat)
      case atStart => exact ⟨0, s - 1, Nat.zero_le _, rfl, rfl, rfl, by omega, by omega, by simp [Hid, Pr.sizes], by simp [Hid, Pr.depths, Pr.alls]; omega, Below.refl _ _⟩
      case round =>
        obtain ⟨k, r, hk, rfl, rfl, rfl, hr0, hr1, HRr, HD, hb⟩ := hrel
        have g := g.below hb g.lt
        by_cases hlt : k < len
        · obtain ⟨q, hq⟩ : ∃ q, kids[k]? = some q := ⟨_, List.getElem?_eq_getElem (by rw [HLEN.out]; exact hlt)⟩
          obtain ⟨rfl, hB⟩ := HN.out (by omega)
          obtain ⟨oq, cq, hV⟩ := lies_val (HR.out k q hq)
          have hbw : Below w.heap.size w wr := (below_new HB1.out).trans (hb.mono (below_new HB1.out).size)
          obtain ⟨c0, c1, c2, c3, c4⟩ := pc_cells (w := wr) (fun j u hu => (hbw.cell (p := ⟨b, o + k * 5 + j, none⟩) hB).trans (HC.out k q hq j u hu))
          have L0 := (HR.out k q hq).later hbw (Nat.le_refl _)
          rw [hV] at c4 L0
          have CC := fun w' h => HI.out q (List.mem_of_getElem? hq) (.slice oq q.kids.length cq) r (d - 1) w' h hr0 hr1 (by omega) (by omega)
          have L1 := fun ob => Lib.hid (L0.atAlloc ob)
          have h3 := Pr.sizes_take hq
          have h5 := Pr.depths_take hq
          have h6 := Pr.alls_take hq
          have h7 := HRr.out
          have h8 := HD.out
          have HB := Lib.hid hb
          cases hf : q.fitsB r (d - 1)
          · have HF := Lib.hid (fits_kid (op := op) (t := t) (n := n) (x := x) (y := y) hq h7 hf)
            rw [fitV_false hf] at CC
            have CC := fun w' h => Lib.hid (CC w' h)
            clear hb hbw hq L0 h3 h5 h6 h7 h8 hV hf
            have l := g.cell
            have z := g.lt
            clear g
            go_wp2_with (go_at_call 94; refine (CC _ (L1 _).out).out.mono ?_; rintro e w' ⟨rfl, hb'⟩)
            go_ret2
            exact ⟨(HV0.out.symm.trans (fitV_false HF.out)).symm, (below_new HB1.out).trans ((HB.out.trans ((below_new hb').mono HB.out.size)).mono (below_new HB1.out).size)⟩
          · obtain ⟨f1, f2, f3⟩ := fits_true.1 hf
            have q1 : (0 : Int) ≤ r - q.size := by omega
            have q2 : r - q.size ≤ 30 := by omega
            have HRr1 := Lib.hid (show s = (r - q.size) + 1 + (Pr.sizes (kids.take (k + 1)) : Nat) by rw [h3]; omega)
            have HD1 := Lib.hid (show (Pr.depths (kids.take (k + 1)) : Int) ≤ d - 1 ∧ Pr.alls (kids.take (k + 1)) = true from ⟨by rw [h5]; omega, by rw [h6, h8.2, f3]; rfl⟩)
            rw [fitV_true hf] at CC
            have CC := fun w' h => Lib.hid (CC w' h)
            clear hb hbw hq L0 h3 h5 h6 h7 h8 hV hf f2 f3
            have l := g.cell
            have z := g.lt
            clear g
            go_wp2_with (go_at_call 94; refine (CC _ (L1 _).out).out.mono ?_; rintro e w' ⟨rfl, hb'⟩)
            go_roundw
            case rel => exact ⟨k + 1, r - q.size, by omega, by go_num, rfl, rfl, q1, q2, HRr1.out, HD1.out, HB.out.trans ((below_new hb').mono HB.out.size)⟩
            case measure => simp [intOf]; omega
        · have HB := Lib.hid hb
          clear hb
          have l := g.cell
          have z := g.lt
          clear g
          have e : k = len := by omega
          have h7 := HRr.out
          have h8 := HD.out
          rw [Pr.take_all kids (by rw [HLEN.out]; omega)] at h7 h8
          have hf : (Pr.node op t n x y kids).fitsB s d = true := fits_true.2 ⟨by simp only [Pr.size]; omega, by simp only [Pr.depth]; omega, by simp only [Pr.all]; rw [HLEN.out, HP.out, h8.2]; rfl⟩
          have HE := Lib.hid (show E0 = .returned (.tuple #[.int .i64 r, .bool true]) by rw [← HV0.out, fitV_true hf]; simp only [Pr.size]; congr 5; omega)
          clear h7 h8 e hf
          go_wp2_with fail
          go_ret2
          exact ⟨HE.out.symm, (below_new HB1.out).trans (HB.out.mono (below_new HB1.out).size)⟩
set_option maxHeartbeats 1000000 in
theorem predMay_calls (p : Pr) (v : Value) (w : World) (hL : LP w p v) :
    Calls Tryz.prog 44 #[.agg #[.int .i64 p.op, .string p.text, .int .i64 p.n, .complex .f64 p.x p.y, v]] w fun e w' => e = .returned (.bool p.mayB) ∧ Below w.heap.size w w' := by
  have H := fun w' h => fits_calls p v 30 6 w' h (by omega) (by omega) (by omega) (by omega)
  have L1 := fun o => Lib.hid (hL.atAlloc o)
  clear hL
  unfold Pr.mayB
  cases hf : p.fitsB 30 6
  · rw [fitV_false hf] at H
    have H := fun w' h => Lib.hid (H w' h)
    clear hf
    go_enter Tryz.func44, Tryz.ntmps44
    go_wp2_with (go_at_call 94; refine (H _ (L1 _).out).out.mono ?_; rintro e w' ⟨rfl, hb⟩)
    go_ret
    exact ⟨rfl, below_new hb⟩
  · rw [fitV_true hf] at H
    have H := fun w' h => Lib.hid (H w' h)
    clear hf
    go_enter Tryz.func44, Tryz.ntmps44
    go_wp2_with (go_at_call 94; refine (H _ (L1 _).out).out.mono ?_; rintro e w' ⟨rfl, hb⟩)
    go_ret
    exact ⟨rfl, below_new hb⟩
end Go.Proofs.YthbjgfennclidaaGreat
/- What is known: the document's Has, walked. -/
namespace Go.Proofs.YthbjgfennclidaaGreat
set_option linter.unusedVariables false
set_option linter.unusedSimpArgs false
set_option maxRecDepth 100000
open Go.RowKit
def HkRel (l : List Fr) (id : ByteArray) (r c : Int) (len : Nat) (X Y : Array Value) (w : World) (iv : Value) (wr : World) : Prop :=
  ∃ k : Nat, k ≤ len ∧ iv = .int .i64 k ∧ Hid (∀ j f, j < k → l[j]? = some f → hasFr id r c f = false) ∧ Hid (AlS w X Y wr)
set_option maxRecDepth 100000 in
set_option maxHeartbeats 8000000 in
theorem refHasK_calls (K : Kn) (id : ByteArray) (r c : Int) (v : Value) (w : World) (hR : FrW w K.l v) :
    Calls Tryz.prog 20 #[knV K.star v, .string id, .agg #[.int .i64 r, .int .i64 c]] w fun e w' => e = .returned (.bool (hasK K id r c)) ∧ Below w.heap.size w w' := by
  obtain ⟨A, l⟩ := K
  simp only at hR ⊢
  obtain ⟨U, oa, cap, b0, o, rfl, hr⟩ := hR
  have HR := Lib.hid hr
  have hcap := hr.len
  have hmax := hr.max
  unfold maxLen at hmax
  clear hr
  have HE := Lib.hid (show hasK ⟨A, l⟩ id r c = (hasV A r c || l.any (hasFr id r c)) from rfl)
  generalize hasK ⟨A, l⟩ id r c = res at *
  generalize hn : l.length = len at *
  have HN := Lib.hid hn
  clear hn
  have I0 : AlS w (knA A (.slice oa len cap)) #[.int .i64 r, .int .i64 c] ((w.alloc (.cells (knA A (.slice oa len cap)) 31)).alloc (.cells #[.int .i64 r, .int .i64 c] 66)) :=
    ⟨(Has.new w _ _).alloc _, (Own.newAt _ _ _ (by simp)).has, ((Below.refl _ _).alloc (Nat.le_refl _) _).alloc (by simp) _⟩
  have HI0 := Lib.hid I0
  clear I0
  have C := Lib.hid (hasVec_calls A r c ((w.alloc (.cells (knA A (.slice oa len cap)) 31)).alloc (.cells #[.int .i64 r, .int .i64 c] 66)))
  cases hq : hasV A r c
  case true =>
    rw [hq] at C
    have E := Lib.hid (show res = true by rw [HE.out, hq]; rfl)
    clear hq
    go_enter Tryz.func20, Tryz.ntmps20
    go_wp2_with (go_at_call 63; refine C.out.mono ?_; rintro e w2 ⟨rfl, hb2⟩)
    go_ret
    exact ⟨ret_bool E.out.symm, (HI0.out.later hb2).bel⟩
  rw [hq] at C
  have HE2 := Lib.hid (show res = l.any (hasFr id r c) by rw [HE.out, hq]; rfl)
  clear hq HE
  go_enter Tryz.func20, Tryz.ntmps20
  go_wp2_with (go_at_call 63; refine C.out.mono ?_; rintro e w2 ⟨rfl, hb2⟩; have HI2 := Lib.hid (HI0.out.later hb2))
  clear hb2 HI0 C
  go_loopw [7] (fun iv wr => HkRel l id r c len (knA A (.slice oa len cap)) #[.int .i64 r, .int .i64 c] w iv wr) (fun iv _ => len - (intOf iv).toNat)
  case atStart => exact ⟨0, Nat.zero_le _, rfl, fun j f hj => absurd hj (by omega), HI2⟩
  case round =>
    clear HI2
    obtain ⟨k, hk, rfl, HA, HS⟩ := hrel
    have l1 := HS.out.o1.cell
    have z1 := HS.out.o1.lt
    by_cases hlt : k < len
    · obtain ⟨f, hf⟩ : ∃ f, l[k]? = some f := ⟨_, List.getElem?_eq_getElem (by rw [HN.out]; exact hlt)⟩
      obtain ⟨rfl, hb0⟩ := HR.out.at0 (by rw [HN.out]; omega)
      obtain ⟨c0, c1, c2, c3, c4, c5, c6, c7, c8⟩ := fc_cells (w := wr) (fun j z hz => (HS.out.bel.cell (p := ⟨b0, o + k * 9 + j, none⟩) hb0).trans (HR.out.cell k f hf j z hz))
      have htx := (HR.out.ids k f hf).later HS.out.bel (Nat.le_refl _)
      obtain ⟨ou, cu, hu⟩ := htx.val
      rw [hu] at c0 htx
      have m1 := fun dd os => Lib.hid (Calls.regrown_of ((among_calls f.ids id _ (Sort.grow (redrawn wr dd) os) (htx.later (below_regrown _ _ _) (Nat.le_refl _))).mono (fun e w' h => (⟨h.1, by rw [← h.2]; exact Below.refl _ _⟩ : e = .returned (.bool (amongB f.ids id)) ∧ Below _ _ w'))))
      have m2 := fun dd os => Lib.hid (Calls.regrown_of (hasVec_calls f.v r c (Sort.grow (redrawn wr dd) os)))
      have HF := Lib.hid hf
      clear hf hu htx
      have LA := fun dd os q => HS.out.o1.regrown dd os q
      have LB := fun dd os q => HS.out.o2.regrown dd os q
      have r0 := fun dd os => cell_regrown c0 dd os
      have r1 := fun dd os => cell_regrown c1 dd os
      have r2 := fun dd os => cell_regrown c2 dd os
      have r3 := fun dd os => cell_regrown c3 dd os
      have r4 := fun dd os => cell_regrown c4 dd os
      have r5 := fun dd os => cell_regrown c5 dd os
      have r6 := fun dd os => cell_regrown c6 dd os
      have r7 := fun dd os => cell_regrown c7 dd os
      have r8 := fun dd os => cell_regrown c8 dd os
      clear c0 c1 c2 c3 c4 c5 c6 c7 c8
      have k0 : (0 : Int) ≤ (k : Int) := by omega
      have k1 : (k : Int) < (len : Int) := by omega
      have HFR := Lib.hid (show hasFr id r c f = (amongB f.ids id && hasV f.v r c) from rfl)
      have HNX : Hid (hasFr id r c f = false → ∀ j g, j < k + 1 → l[j]? = some g → hasFr id r c g = false) := fun h j g hj hg => by
        by_cases e : j = k
        · subst e; rw [HF.out] at hg; cases hg; exact h
        · exact HA.out j g (by omega) hg
      generalize amongB f.ids id = am at *
      generalize hasV f.v r c = hv at *
      cases am
      · have HN2 := Lib.hid (HNX.out (by rw [HFR.out]; rfl))
        go_wp2_with fail
        refine wp_region_quiet_below (by kernel_rfl) (by kernel_rfl) ?_
        repeat (first | go_big_quiet_step ((first | with_reducible exact (m1 _ _).out | with_reducible exact (m2 _ _).out)) | quiet_step (first | with_reducible exact (m1 _ _).out | with_reducible exact (m2 _ _).out))
        refine wpQuiet_nil ?_
        intro w7 hw'
        have hb' := Lib.hid (regrown_below hw')
        clear hw' m1 m2 LA LB r0 r1 r2 r3 r4 r5 r6 r7 r8
        have HS7 := Lib.hid (HS.out.later hb'.out)
        clear l1
        go_wp2_with fail
        go_roundw
        case rel => exact ⟨k + 1, by omega, by go_num, HN2, HS7⟩
        case measure => simp [intOf]; omega
      · cases hv
        · have HN2 := Lib.hid (HNX.out (by rw [HFR.out]; rfl))
          go_wp2_with fail
          refine wp_region_quiet_below (by kernel_rfl) (by kernel_rfl) ?_
          repeat (first | go_big_quiet_step ((first | with_reducible exact (m1 _ _).out | with_reducible exact (m2 _ _).out)) | quiet_step (first | with_reducible exact (m1 _ _).out | with_reducible exact (m2 _ _).out))
          refine wpQuiet_nil ?_
          intro w7 hw'
          have hb' := Lib.hid (regrown_below hw')
          clear hw' m1 m2 LA LB r0 r1 r2 r3 r4 r5 r6 r7 r8
          have HS7 := Lib.hid (HS.out.later hb'.out)
          clear l1
          go_wp2_with fail
          go_roundw
          case rel => exact ⟨k + 1, by omega, by go_num, HN2, HS7⟩
          case measure => simp [intOf]; omega
        · have E := Lib.hid (show res = true by
            rw [HE2.out, List.any_eq_true]
            exact ⟨f, List.mem_of_getElem? HF.out, by rw [HFR.out]; rfl⟩)
          go_wp2_with fail
          refine wp_region_quiet_below (by kernel_rfl) (by kernel_rfl) ?_
          repeat (first | go_big_quiet_step ((first | with_reducible exact (m1 _ _).out | with_reducible exact (m2 _ _).out)) | quiet_step (first | with_reducible exact (m1 _ _).out | with_reducible exact (m2 _ _).out))
          refine wpQuiet_nil ?_
          intro w7 hw'
          have hb' := Lib.hid (regrown_below hw')
          clear hw' m1 m2 LA LB r0 r1 r2 r3 r4 r5 r6 r7 r8
          clear l1
          go_wp2_with fail
          go_ret
          exact ⟨ret_bool E.out.symm, HS.out.bel.trans (hb'.out.mono HS.out.bel.size)⟩
    · have e : len = k := by omega
      subst e
      have E := Lib.hid (show res = false by
        rw [HE2.out, List.any_eq_false]
        intro f hf
        obtain ⟨j, hj, e⟩ := List.mem_iff_getElem.1 hf
        have := HA.out j f (by have := HN.out; omega) (by rw [List.getElem?_eq_getElem hj, e])
        simp [this])
      go_wp2_with fail
      go_ret
      exact ⟨ret_bool E.out.symm, HS.out.bel⟩
end Go.Proofs.YthbjgfennclidaaGreat
/- Whether a filter may be: the document's answer. -/
namespace Go.Proofs.YthbjgfennclidaaGreat
set_option linter.unusedVariables false
set_option linter.unusedSimpArgs false
set_option maxRecDepth 100000
open Go.RowKit
def zeroB (bt bn ba bk : Bool) (t : ByteArray) (n : Int) (x y len : Nat) : Bool :=
  (bt || decide (t.toList = [])) && ((bn || decide (n = 0)) && ((ba || (feq x 0 && feq y 0)) && (bk || decide (len = 0))))
theorem len_pos (k : Nat) : decide ((0 : Int) < (k : Int)) = !decide (k = 0) := by
  rw [Bool.eq_iff_iff]; simp; omega
set_option maxHeartbeats 4000000 in
theorem zero_calls (bt bn ba bk : Bool) (op : Int) (t : ByteArray) (n : Int) (x y : Nat) (oa : Option Addr) (len cap : Nat) (w : World) :
    Calls Tryz.prog 159 #[.agg #[.int .i64 op, .string t, .int .i64 n, .complex .f64 x y, .slice oa len cap], .bool bt, .bool bn, .bool ba, .bool bk] w fun e w' => e = .returned (.bool (zeroB bt bn ba bk t n x y len)) ∧ Below w.heap.size w w' := by
  have f1 : ∀ x y, (FloatKind.f64.format.order x y == some .eq) = feq x y := fun _ _ => rfl
  cases bt <;> cases bn <;> cases ba <;> cases bk
  all_goals
    go_enter Tryz.func159, Tryz.ntmps159
    go_wp2
    all_goals
      go_ret
      refine ⟨ret_bool ?_, (Below.refl _ _).alloc (Nat.le_refl _) _⟩
      first
        | (simp_all [zeroB, len_pos]; done)
        | (have hl0 : ¬ len = 0 := by omega
           simp_all [zeroB, len_pos])
end Go.Proofs.YthbjgfennclidaaGreat
