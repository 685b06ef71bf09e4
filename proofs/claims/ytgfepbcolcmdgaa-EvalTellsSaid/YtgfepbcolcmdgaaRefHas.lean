/- Which items a filter has: the document's answer, walked. -/
import Derived.Test.YtgfepbcolcmdgaaHasM
import Derived.Test.YtgfepbcolcmdgaaSize
import Derived.Test.YtgfepbcolcmdgaaOwn
import Derived.Deep.CutBlock
import Derived.Deep.DeepCutAuto
namespace Go.Proofs.Ytgfepbcolcmdgaa
open Go.RowKit

/-! ### begins -/
theorem beg_short {s t : ByteArray} {k : Nat} (h1 : s.size ≤ k) (h2 : k < t.size) : begB s t = false := by
  unfold begB
  cases h : t.data.toList.isPrefixOf s.data.toList with
  | false => rfl
  | true =>
    have h3 := (List.isPrefixOf_iff_prefix.1 h).length_le
    have e1 : t.data.toList.length = t.size := by simp
    have e2 : s.data.toList.length = s.size := by simp
    omega
theorem beg_step {s t : ByteArray} {k : Nat} (hs : k < s.size) (ht : k < t.size) (h : s.data.toList.take k = t.data.toList.take k) (e : s[k] = t[k]) : s.data.toList.take (k + 1) = t.data.toList.take (k + 1) := by
  rw [take_snoc s k hs, take_snoc t k ht, h, e]
theorem beg_diff {s t : ByteArray} {k : Nat} (hs : k < s.size) (ht : k < t.size) (e : s[k] ≠ t[k]) : begB s t = false := by
  unfold begB
  cases h : t.data.toList.isPrefixOf s.data.toList with
  | false => rfl
  | true =>
    obtain ⟨r, hr⟩ := List.isPrefixOf_iff_prefix.1 h
    have e1 : s.data.toList[k]? = t.data.toList[k]? := by
      rw [← hr, List.getElem?_append_left (by simpa using ht)]
    have e2 : s.data.toList[k]? = some s[k] := by
      rw [List.getElem?_eq_getElem (by simpa using hs)]; rfl
    have e3 : t.data.toList[k]? = some t[k] := by
      rw [List.getElem?_eq_getElem (by simpa using ht)]; rfl
    rw [e2, e3] at e1
    exact absurd (Option.some.inj e1) e
theorem beg_all {s t : ByteArray} (h : s.data.toList.take t.size = t.data.toList.take t.size) : begB s t = true := by
  unfold begB
  rw [List.isPrefixOf_iff_prefix]
  have e : t.data.toList.take t.size = t.data.toList := List.take_of_length_le (by simp)
  rw [e] at h
  exact ⟨s.data.toList.drop t.size, by rw [← h]; exact List.take_append_drop _ _⟩

set_option maxHeartbeats 1000000 in
theorem begins_calls (s t : ByteArray) (w : World) (hs : s.size ≤ maxLen) (ht : t.size ≤ maxLen) :
    Calls Try.prog 23 #[.string s, .string t] w fun e w' => e = .returned (.bool (begB s t)) ∧ Below w.heap.size w w' := by
  unfold maxLen at hs ht
  go_enter Try.func23, Try.ntmps23
  go_wp2_with fail
  go_loopw [5] (fun i wr => ∃ k : Nat, k ≤ t.size ∧ i = .int .i64 k ∧ Hid (s.data.toList.take k = t.data.toList.take k) ∧ Below w.heap.size w wr) (fun i _ => t.size - (intOf i).toNat)
  case atStart => exact ⟨0, Nat.zero_le _, rfl, by simp [Hid], Below.refl _ _⟩
  case round =>
    obtain ⟨k, hk, rfl, HS, hb⟩ := hrel
    have HB := Lib.hid hb
    clear hb
    by_cases hlt : k < t.size
    · by_cases hls : k < s.size
      · have d1 : decide ((s.size : Int) ≤ (k : Int)) = false := by simp; omega
        have k0 : (0 : Int) ≤ (k : Int) := by omega
        have k1 : (k : Int) < (s.size : Int) := by omega
        have k2 : (k : Int) < (t.size : Int) := by omega
        by_cases e : s[k] = t[k]
        · have HN := Lib.hid (beg_step hls hlt HS.out e)
          have d2 : ((s[k].toNat : Int) != (t[k].toNat : Int)) = false := by rw [e]; simp
          clear e
          go_wp2_with fail
          refine wp_region_quiet_below (by kernel_rfl) (by kernel_rfl) ?_
          repeat (first | go_big_quiet_step (fail) | quiet_step (fail))
          refine wpQuiet_nil ?_
          intro w7 hw'
          have hb' := Lib.hid (regrown_below hw')
          clear hw'
          go_wp2_with fail
          go_roundw
          case rel => exact ⟨k + 1, by omega, by go_num, HN.out, HB.out.trans (hb'.out.mono HB.out.size)⟩
          case measure => simp [intOf]; omega
        · have HZ := Lib.hid (beg_diff hls hlt e)
          have d2 : ((s[k].toNat : Int) != (t[k].toNat : Int)) = true := by
            rw [bne_iff_ne]; intro h; exact e (UInt8.toNat_inj.1 (by omega))
          clear e
          go_wp2_with fail
          refine wp_region_quiet_below (by kernel_rfl) (by kernel_rfl) ?_
          repeat (first | go_big_quiet_step (fail) | quiet_step (fail))
          refine wpQuiet_nil ?_
          intro w7 hw'
          have hb' := Lib.hid (regrown_below hw')
          clear hw'
          go_wp2_with fail
          go_ret
          exact ⟨ret_bool HZ.out.symm, HB.out.trans (hb'.out.mono HB.out.size)⟩
      · have d1 : decide ((s.size : Int) ≤ (k : Int)) = true := by simp; omega
        have HZ := Lib.hid (beg_short (s := s) (t := t) (k := k) (by omega) hlt)
        go_wp2_with fail
        refine wp_region_quiet_below (by kernel_rfl) (by kernel_rfl) ?_
        repeat (first | go_big_quiet_step (fail) | quiet_step (fail))
        refine wpQuiet_nil ?_
        intro w7 hw'
        have hb' := Lib.hid (regrown_below hw')
        clear hw'
        go_wp2_with fail
        go_ret
        exact ⟨ret_bool HZ.out.symm, HB.out.trans (hb'.out.mono HB.out.size)⟩
    · have e : k = t.size := by omega
      subst e
      have HZ := Lib.hid (beg_all HS.out)
      go_wp2_with fail
      go_ret
      exact ⟨ret_bool HZ.out.symm, HB.out⟩

def cntB (i : It) (l : List Pr) : Nat := (l.filter (Pr.hasB i)).length
theorem cnt_le (i : It) (l : List Pr) : cntB i l ≤ l.length := List.length_filter_le _ _
theorem cnt_snoc (i : It) {l : List Pr} {k : Nat} {q : Pr} (hq : l[k]? = some q) : cntB i (l.take (k + 1)) = cntB i (l.take k) + (if Pr.hasB i q = true then 1 else 0) := by
  rw [Pr.take_one hq]; unfold cntB; rw [List.filter_append]
  by_cases h : Pr.hasB i q = true <;> simp [List.filter_cons, h]
theorem cnt_all (i : It) (l : List Pr) : Pr.hasAll i l = decide (cntB i l = l.length) := by
  induction l with
  | nil => simp [Pr.hasAll, cntB]
  | cons a l ih =>
    have hl := cnt_le i l
    unfold cntB at *
    rw [Pr.hasAll, ih, List.filter_cons]
    cases h : Pr.hasB i a
    · simp; omega
    · simp
theorem cnt_any (i : It) (l : List Pr) : Pr.hasAny i l = decide (0 < cntB i l) := by
  induction l with
  | nil => simp [Pr.hasAny, cntB]
  | cons a l ih =>
    unfold cntB at *
    rw [Pr.hasAny, ih, List.filter_cons]
    cases h : Pr.hasB i a <;> simp
def HasRel (i : It) (l : List Pr) (len : Nat) (w0 : World) (many j : Value) (wr : World) : Prop :=
  ∃ (k m : Nat), k ≤ len ∧ j = .int .i64 k ∧ many = .int .i64 m ∧ m ≤ k ∧ Hid (m = cntB i (l.take k)) ∧ Below w0.heap.size w0 wr

set_option maxRecDepth 100000 in
set_option maxHeartbeats 4000000 in
theorem refHas_calls (i : It) (r c st : Int) (d : Bool) (hid : i.id.size ≤ maxLen) (p : Pr) : ∀ (v : Value) (w : World), LP w p v → p.size ≤ 1000 →
    Calls Try.prog 10 #[.agg #[.int .i64 p.op, .string p.text, .int .i64 p.n, .complex .f64 p.x p.y, v], .agg #[.string i.id, .int .i64 r, .int .i64 c, .int .i64 st, .string i.kd, .int .i64 i.num, .complex .f64 i.ax i.ay, .bool d]] w fun e w' => e = .returned (.bool (p.hasB i)) ∧ Below w.heap.size w w' := by
  induction p using Pr.ind with
  | h op t n x y kids ih =>
    intro v w hL hsz
    obtain ⟨oa, cap, b, o, V, rfl, ht, hl, hc, hn, hcell, hrec⟩ := lies_slice hL
    simp only [Pr.kids_node, Pr.text_node, Pr.op_node, Pr.n_node, Pr.x_node, Pr.y_node, Pr.size] at *
    unfold maxLen at hc
    have h1000 := Pr.len_le_sizes kids
    have HC := Lib.hid hcell
    have HR := Lib.hid hrec
    have HN := Lib.hid hn
    have HI := Lib.hid ih
    have HT := Lib.hid ht
    have HID := Lib.hid hid
    clear hL hcell hrec hn ih ht hid
    have HAll := Lib.hid (cnt_all i kids)
    have HAny := Lib.hid (cnt_any i kids)
    generalize hlen : kids.length = len at *
    have HLEN := Lib.hid hlen
    clear hlen
    generalize hres : Pr.hasB i (.node op t n x y kids) = res
    have HRES := Lib.hid hres
    clear hres
    go_enter Try.func10, Try.ntmps10
    go_wp2_with fail
    go_loopw [5, 6] (fun many j wr => HasRel i kids len ((w.alloc (.cells #[.int .i64 op, .string t, .int .i64 n, .complex .f64 x y, .slice oa len cap] 33)).alloc (.cells #[.string i.id, .int .i64 r, .int .i64 c, .int .i64 st, .string i.kd, .int .i64 i.num, .complex .f64 i.ax i.ay, .bool d] 38)) many j wr) (fun _ j _ => len - (intOf j).toNat)
    case atStart => exact ⟨0, 0, Nat.zero_le _, rfl, rfl, Nat.le_refl _, by simp [Hid, cntB], Below.refl _ _⟩
    case round =>
      obtain ⟨k, m, hk, rfl, rfl, hm, HM, hb⟩ := hrel
      have G1 := Lib.hid (((Has.new w #[.int .i64 op, .string t, .int .i64 n, .complex .f64 x y, .slice oa len cap] 33).alloc (.cells #[.string i.id, .int .i64 r, .int .i64 c, .int .i64 st, .string i.kd, .int .i64 i.num, .complex .f64 i.ax i.ay, .bool d] 38)).below hb (by simp; omega))
      have G2 := Lib.hid ((Own.newAt (w.alloc (.cells #[.int .i64 op, .string t, .int .i64 n, .complex .f64 x y, .slice oa len cap] 33)) #[.string i.id, .int .i64 r, .int .i64 c, .int .i64 st, .string i.kd, .int .i64 i.num, .complex .f64 i.ax i.ay, .bool d] 38 (b := w.heap.size + 1) (by simp)).has.below hb (by simp))
      by_cases hlt : k < len
      · obtain ⟨q, hq⟩ : ∃ q, kids[k]? = some q := ⟨_, List.getElem?_eq_getElem (by rw [HLEN.out]; exact hlt)⟩
        obtain ⟨rfl, hB⟩ := HN.out (by omega)
        obtain ⟨oq, cq, hV⟩ := lies_val (HR.out k q hq)
        have hbw : Below w.heap.size w wr := below_new (below_new hb)
        obtain ⟨c0, c1, c2, c3, c4⟩ := pc_cells (w := wr) (fun j u hu => (hbw.cell (p := ⟨b, o + k * 5 + j, none⟩) hB).trans (HC.out k q hq j u hu))
        have L0 := (HR.out k q hq).later hbw (Nat.le_refl _)
        rw [hV] at c4 L0
        have hqs := Pr.size_mem (List.mem_of_getElem? hq)
        have CC := fun dd os => HI.out q (List.mem_of_getElem? hq) (.slice oq q.kids.length cq) (Sort.grow (redrawn wr dd) os) (L0.later (below_regrown _ _ _) (Nat.le_refl _)) (by omega)
        have r0 := fun dd os => cell_regrown c0 dd os
        have r1 := fun dd os => cell_regrown c1 dd os
        have r2 := fun dd os => cell_regrown c2 dd os
        have r3 := fun dd os => cell_regrown c3 dd os
        have r4 := fun dd os => cell_regrown c4 dd os
        have LA := fun dd os o => G1.out.regrown dd os o
        have LB := fun dd os o => G2.out.regrown dd os o
        have l1 := G1.out.cell
        have HB := Lib.hid hb
        have h9 := cnt_snoc i hq
        cases hs : Pr.hasB i q
        · rw [hs] at CC h9
          have m3 := fun dd os => Lib.hid (Calls.regrown_of (CC dd os))
          have HM1 := Lib.hid (show m = cntB i (kids.take (k + 1)) by rw [h9, HM.out]; rfl)
          clear hb hV L0 hs hq CC hbw h9
          go_wp2_with fail
          refine wp_region_quiet_below (by kernel_rfl) (by kernel_rfl) ?_
          repeat (first | go_big_quiet_step ((with_reducible exact (m3 _ _).out)) | quiet_step (with_reducible exact (m3 _ _).out))
          refine wpQuiet_nil ?_
          intro w7 hw'
          have hb' := Lib.hid (regrown_below hw')
          clear hw'
          clear m3 r0 r1 r2 r3 r4 LA LB
          go_wp2_with fail
          go_roundw
          case rel => exact ⟨k + 1, m, by omega, by go_num, by go_num, by omega, HM1.out, HB.out.trans (hb'.out.mono HB.out.size)⟩
          case measure => simp [intOf]; omega
        · rw [hs] at CC h9
          have m3 := fun dd os => Lib.hid (Calls.regrown_of (CC dd os))
          have HM1 := Lib.hid (show m + 1 = cntB i (kids.take (k + 1)) by rw [h9, HM.out]; rfl)
          clear hb hV L0 hs hq CC hbw h9
          go_wp2_with fail
          refine wp_region_quiet_below (by kernel_rfl) (by kernel_rfl) ?_
          repeat (first | go_big_quiet_step ((with_reducible exact (m3 _ _).out)) | quiet_step (with_reducible exact (m3 _ _).out))
          refine wpQuiet_nil ?_
          intro w7 hw'
          have hb' := Lib.hid (regrown_below hw')
          clear hw'
          clear m3 r0 r1 r2 r3 r4 LA LB
          go_wp2_with fail
          go_roundw
          case rel => exact ⟨k + 1, m + 1, by omega, by go_num, by go_num, by omega, HM1.out, HB.out.trans (hb'.out.mono HB.out.size)⟩
          case measure => simp [intOf]; omega
      · have e : k = len := by omega
        subst e
        have hm9 := HM.out
        rw [Pr.take_all kids (by rw [HLEN.out]; omega)] at hm9
        have HM9 := Lib.hid hm9
        have HB := Lib.hid hb
        clear hm9 HM
        have hbe := HB.out
        have l1 := G1.out.cell
        have l2 := G2.out.cell
        have z1 := G1.out.lt
        have z2 := G2.out.lt
        have BE := Lib.hid (below_new (below_new hbe))
        clear hbe
        have hop : op = 1 ∨ op = 2 ∨ op = 3 ∨ op = 4 ∨ op = 5 ∨ op = 6 ∨ op = 7 ∨ op = 8 ∨ op = 9 ∨ op = 10 ∨ (op ≠ 1 ∧ op ≠ 2 ∧ op ≠ 3 ∧ op ≠ 4 ∧ op ≠ 5 ∧ op ≠ 6 ∧ op ≠ 7 ∧ op ≠ 8 ∧ op ≠ 9 ∧ op ≠ 10) := by omega
        rcases hop with rfl | rfl | rfl | rfl | rfl | rfl | rfl | rfl | rfl | rfl | ⟨n1, n2, n3, n4, n5, n6, n7, n8, n9, n10⟩
        · have E := Lib.hid (show res = true by rw [← HRES.out]; simp [Pr.hasB])
          clear hb
          go_wp2_with fail
          all_goals
            go_ret
            exact ⟨ret_bool (by rw [E.out]; first | done | (rw [Bool.eq_iff_iff]; simp; done) | (simp_all; done)), BE.out⟩
        · have E := Lib.hid (show res = false by rw [← HRES.out]; simp [Pr.hasB])
          clear hb
          go_wp2_with fail
          all_goals
            go_ret
            exact ⟨ret_bool (by rw [E.out]; first | done | (rw [Bool.eq_iff_iff]; simp; done) | (simp_all; done)), BE.out⟩
        · have E := Lib.hid (show res = decide (i.kd.toList = t.toList) by rw [← HRES.out]; simp [Pr.hasB])
          clear hb
          go_wp2_with fail
          all_goals
            go_ret
            exact ⟨ret_bool (by rw [E.out]; first | done | (rw [Bool.eq_iff_iff]; simp; done) | (simp_all; done)), BE.out⟩
        · have E := Lib.hid (show res = begB i.id t by rw [← HRES.out]; simp [Pr.hasB])
          have C := fun w => Lib.hid (begins_calls i.id t w HID.out HT.out)
          clear hb
          go_wp2_with (go_at_call 23; refine (C _).out.mono ?_; rintro e w' ⟨rfl, hb'⟩)
          go_ret
          exact ⟨ret_bool E.out.symm, BE.out.trans (hb'.mono BE.out.size)⟩
        · have E := Lib.hid (show res = decide (i.num < n) by rw [← HRES.out]; simp [Pr.hasB])
          clear hb
          go_wp2_with fail
          all_goals
            go_ret
            exact ⟨ret_bool (by rw [E.out]; first | done | (rw [Bool.eq_iff_iff]; simp; done) | (simp_all; done)), BE.out⟩
        · have E := Lib.hid (show res = decide (n ≤ i.num) by rw [← HRES.out]; simp [Pr.hasB])
          clear hb
          go_wp2_with fail
          all_goals
            go_ret
            exact ⟨ret_bool (by rw [E.out]; first | done | (rw [Bool.eq_iff_iff]; simp; done) | (simp_all; done)), BE.out⟩
        · have E := Lib.hid (show res = (decide (0 ≤ farV i.ax i.ay x y) && decide (farV i.ax i.ay x y ≤ n)) by rw [← HRES.out]; simp [Pr.hasB, nearB])
          have C := fun w => Lib.hid (refFar_calls i.ax i.ay x y w)
          generalize farV i.ax i.ay x y = fv at *
          clear hb
          go_wp2_with (go_at_call 24; refine (C _).out.mono ?_; rintro e w' ⟨rfl, rfl⟩)
          all_goals
            go_ret
            exact ⟨ret_bool (by rw [E.out]; first | (simp_all; done) | (simp_all; omega)), BE.out⟩
        · have E := Lib.hid (show res = decide (m = k) by rw [← HRES.out, HM9.out, ← HAll.out]; simp [Pr.hasB])
          clear hb
          go_wp2_with fail
          all_goals
            go_ret
            exact ⟨ret_bool (by rw [E.out]; try (rw [Bool.eq_iff_iff]; simp); try omega), BE.out⟩
        · have E := Lib.hid (show res = decide (0 < m) by rw [← HRES.out, HM9.out, ← HAny.out]; simp [Pr.hasB])
          clear hb
          go_wp2_with fail
          all_goals
            go_ret
            exact ⟨ret_bool (by rw [E.out]; try (rw [Bool.eq_iff_iff]; simp); try omega), BE.out⟩
        · by_cases h0 : k = 0
          · subst h0
            have E := Lib.hid (show res = false by rw [← HRES.out, List.length_eq_zero_iff.1 HLEN.out]; simp [Pr.hasB, Pr.hasNot])
            clear hb
            go_wp2_with fail
            go_ret
            exact ⟨ret_bool E.out.symm, BE.out⟩
          · have h0' : 0 < k := by omega
            clear l1
            obtain ⟨q, hq⟩ : ∃ q, kids[0]? = some q := ⟨_, List.getElem?_eq_getElem (by rw [HLEN.out]; omega)⟩
            obtain ⟨rfl, hB⟩ := HN.out (by omega)
            obtain ⟨oq, cq, hV⟩ := lies_val (HR.out 0 q hq)
            have hbw : Below w.heap.size w wr := below_new (below_new hb)
            obtain ⟨c0, c1, c2, c3, c4⟩ := pc_cells (w := wr) (fun j u hu => (hbw.cell (p := ⟨b, o + 0 * 5 + j, none⟩) hB).trans (HC.out 0 q hq j u hu))
            have L0 := (HR.out 0 q hq).later hbw (Nat.le_refl _)
            rw [hV] at c4 L0
            have hqs := Pr.size_mem (List.mem_of_getElem? hq)
            have CC := fun dd os => HI.out q (List.mem_of_getElem? hq) (.slice oq q.kids.length cq) (Sort.grow (redrawn wr dd) os) (L0.later (below_regrown _ _ _) (Nat.le_refl _)) (by omega)
            have r0 := fun dd os => cell_regrown c0 dd os
            have r1 := fun dd os => cell_regrown c1 dd os
            have r2 := fun dd os => cell_regrown c2 dd os
            have r3 := fun dd os => cell_regrown c3 dd os
            have r4 := fun dd os => cell_regrown c4 dd os
            have LA := fun dd os o => G1.out.regrown dd os o
            have LB := fun dd os o => G2.out.regrown dd os o
            have l1 := G1.out.cell
            have E := Lib.hid (show res = !(Pr.hasB i q) by
              rw [← HRES.out]
              match kids, hq with
              | a :: l, hq => simp at hq; subst hq; simp [Pr.hasB, Pr.hasNot])
            have m3 := fun dd os => Lib.hid (Calls.regrown_of (CC dd os))
            have hk0 : ((k : Int) == 0) = false := by simp; omega
            generalize Pr.hasB i q = rq at *
            clear hb hV L0 hq CC hbw
            simp only [Nat.zero_mul, Nat.add_zero] at r0 r1 r2 r3 r4
            go_wp2_with fail
            refine wp_region_quiet_below (by kernel_rfl) (by kernel_rfl) ?_
            repeat (first | go_big_quiet_step ((with_reducible exact (m3 _ _).out)) | quiet_step (with_reducible exact (m3 _ _).out))
            refine wpQuiet_nil ?_
            intro w7 hw'
            have hb' := Lib.hid (regrown_below hw')
            clear hw' m3 r0 r1 r2 r3 r4 LA LB
            go_wp2_with fail
            go_ret
            exact ⟨ret_bool E.out.symm, BE.out.trans (hb'.out.mono BE.out.size)⟩
        · have E := Lib.hid (show res = false by rw [← HRES.out]; simp [Pr.hasB, n1, n3, n4, n5, n6, n7, n8, n9, n10])
          clear hb
          go_wp2_with fail
          go_ret
          exact ⟨ret_bool E.out.symm, BE.out⟩

end Go.Proofs.Ytgfepbcolcmdgaa
