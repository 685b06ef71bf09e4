/- How large and how deep a filter is: the document's answer, walked. -/
import Derived.Test.YtechmejmlelmmaaSizeB
namespace Go.Proofs.Ytechmejmlelmmaa
set_option linter.unusedVariables false
set_option linter.unusedSimpArgs false
set_option maxRecDepth 100000
open Go.RowKit

set_option maxHeartbeats 1000000 in
theorem refSize_calls (p : Pr) : ∀ (v : Value) (w : World), LP w p v → p.size ≤ 1000 →
    Calls Try.prog 24 #[.agg #[.int .i64 p.op, .string p.text, .int .i64 p.n, .complex .f64 p.x p.y, v]] w fun e w' => e = .returned (.int .i64 (p.size : Nat)) ∧ Below w.heap.size w w' := by
  induction p using Pr.ind with
  | h op t n x y kids ih =>
    intro v w hL hsz
    obtain ⟨oa, cap, b, o, V, rfl, ht, hl, hc, hn, hcell, hrec⟩ := lies_slice hL
    simp only [Pr.kids_node, Pr.text_node, Pr.op_node, Pr.n_node, Pr.x_node, Pr.y_node, Pr.size, Pr.depth] at *
    unfold maxLen at hc
    have h1000 := Pr.len_le_sizes kids
    have HC := Lib.hid hcell
    have HR := Lib.hid hrec
    have HN := Lib.hid hn
    have HI := Lib.hid ih
    clear hL hcell hrec hn ih
    generalize hlen : kids.length = len at *
    have HLEN := Lib.hid hlen
    clear hlen
    go_enter Try.func24, Try.ntmps24
    go_wp2_with fail
    go_loopw [3, 4] (fun n' i wr => SumRel kids len (fun l => 1 + Pr.sizes l) (w.alloc (.cells #[.int .i64 op, .string t, .int .i64 n, .complex .f64 x y, .slice oa len cap] 37)) n' i wr) (fun _ i _ => len - (intOf i).toNat)
    case atStart => exact ⟨0, 1, Nat.zero_le _, rfl, rfl, by omega, by simp [Hid, Pr.sizes, Pr.depths], Below.refl _ _⟩
    case round =>
      obtain ⟨k, s, hk, rfl, rfl, hs, HS, hb⟩ := hrel
      have g := (Has.new w #[.int .i64 op, .string t, .int .i64 n, .complex .f64 x y, .slice oa len cap] 37).below hb (by simp)
      by_cases hlt : k < len
      · obtain ⟨q, hq⟩ : ∃ q, kids[k]? = some q := ⟨_, List.getElem?_eq_getElem (by rw [HLEN.out]; exact hlt)⟩
        obtain ⟨rfl, hB⟩ := HN.out (by omega)
        obtain ⟨oq, cq, hV⟩ := lies_val (HR.out k q hq)
        have hbw : Below w.heap.size w wr := ((Below.refl _ _).alloc (Nat.le_refl _) _).trans (hb.mono (by simp))
        obtain ⟨c0, c1, c2, c3, c4⟩ := pc_cells (w := wr) (fun j u hu => (hbw.cell (p := ⟨b, o + k * 5 + j, none⟩) hB).trans (HC.out k q hq j u hu))
        have L0 := (HR.out k q hq).later hbw (Nat.le_refl _)
        rw [hV] at c4 L0
        have hqs := Pr.size_mem (List.mem_of_getElem? hq)
        have hqd := Pr.depth_le_size q
        have CC := fun w' h => Lib.hid (HI.out q (List.mem_of_getElem? hq) (.slice oq q.kids.length cq) w' h (by omega))
        have L1 := fun ob => Lib.hid (L0.atAlloc ob)
        have LW := Lib.hid L0
        have h3 := Pr.sizes_take hq
        have h4 := Pr.sizes_take_le kids (k + 1)
        have h5 := Pr.depths_take hq
        have h7 := Pr.depth_le_size (.node op t n x y kids)
        have h8 := Pr.depths_take_le kids (k + 1)
        simp only [Pr.size, Pr.depth] at h7
        have h6 : s = 1 + Pr.sizes (kids.take k) := HS.out
        have hs1 : s + q.size ≤ 1000 := by rw [h3] at h4; omega
        have HS1 := Lib.hid (show s + q.size = 1 + Pr.sizes (kids.take (k + 1)) by rw [h3]; omega)
        have HB := Lib.hid hb
        have HQ := Lib.hid hq
        clear hb hbw hq L0 h3 h4 h5 h6 h7 h8 hV
        have l := g.cell
        have z := g.lt
        clear g
        go_wp2_with (go_at_call 24; refine (CC _ LW.out).out.mono ?_; rintro e w' ⟨rfl, hb'⟩)
        all_goals
          go_roundw
          case rel => exact ⟨k + 1, s + q.size, by omega, by go_num, by go_num, by omega, HS1.out, HB.out.trans (hb'.mono HB.out.size)⟩
          case measure => simp [intOf]; omega
      · have HB := Lib.hid hb
        clear hb
        have l := g.cell
        have z := g.lt
        clear g
        have e : k = len := by omega
        have h5 : s = 1 + Pr.sizes (kids.take k) := HS.out
        rw [Pr.take_all kids (by rw [HLEN.out]; omega)] at h5
        have H5 := Lib.hid h5
        clear h5 e
        go_wp2_with fail
        go_ret
        have h5 := H5.out
        exact ⟨ret_int (by rw [h5]; omega), below_new HB.out⟩

set_option maxHeartbeats 1000000 in
theorem refDepth_calls (p : Pr) : ∀ (v : Value) (w : World), LP w p v → p.size ≤ 1000 →
    Calls Try.prog 25 #[.agg #[.int .i64 p.op, .string p.text, .int .i64 p.n, .complex .f64 p.x p.y, v]] w fun e w' => e = .returned (.int .i64 (p.depth : Nat)) ∧ Below w.heap.size w w' := by
  induction p using Pr.ind with
  | h op t n x y kids ih =>
    intro v w hL hsz
    obtain ⟨oa, cap, b, o, V, rfl, ht, hl, hc, hn, hcell, hrec⟩ := lies_slice hL
    simp only [Pr.kids_node, Pr.text_node, Pr.op_node, Pr.n_node, Pr.x_node, Pr.y_node, Pr.size, Pr.depth] at *
    unfold maxLen at hc
    have h1000 := Pr.len_le_sizes kids
    have HC := Lib.hid hcell
    have HR := Lib.hid hrec
    have HN := Lib.hid hn
    have HI := Lib.hid ih
    clear hL hcell hrec hn ih
    generalize hlen : kids.length = len at *
    have HLEN := Lib.hid hlen
    clear hlen
    go_enter Try.func25, Try.ntmps25
    go_wp2_with fail
    go_loopw [3, 4] (fun n' i wr => SumRel kids len (fun l => 1 + Pr.depths l) (w.alloc (.cells #[.int .i64 op, .string t, .int .i64 n, .complex .f64 x y, .slice oa len cap] 37)) n' i wr) (fun _ i _ => len - (intOf i).toNat)
    case atStart => exact ⟨0, 1, Nat.zero_le _, rfl, rfl, by omega, by simp [Hid, Pr.sizes, Pr.depths], Below.refl _ _⟩
    case round =>
      obtain ⟨k, s, hk, rfl, rfl, hs, HS, hb⟩ := hrel
      have g := (Has.new w #[.int .i64 op, .string t, .int .i64 n, .complex .f64 x y, .slice oa len cap] 37).below hb (by simp)
      by_cases hlt : k < len
      · obtain ⟨q, hq⟩ : ∃ q, kids[k]? = some q := ⟨_, List.getElem?_eq_getElem (by rw [HLEN.out]; exact hlt)⟩
        obtain ⟨rfl, hB⟩ := HN.out (by omega)
        obtain ⟨oq, cq, hV⟩ := lies_val (HR.out k q hq)
        have hbw : Below w.heap.size w wr := ((Below.refl _ _).alloc (Nat.le_refl _) _).trans (hb.mono (by simp))
        obtain ⟨c0, c1, c2, c3, c4⟩ := pc_cells (w := wr) (fun j u hu => (hbw.cell (p := ⟨b, o + k * 5 + j, none⟩) hB).trans (HC.out k q hq j u hu))
        have L0 := (HR.out k q hq).later hbw (Nat.le_refl _)
        rw [hV] at c4 L0
        have hqs := Pr.size_mem (List.mem_of_getElem? hq)
        have hqd := Pr.depth_le_size q
        have CC := fun w' h => Lib.hid (HI.out q (List.mem_of_getElem? hq) (.slice oq q.kids.length cq) w' h (by omega))
        have L1 := fun ob => Lib.hid (L0.atAlloc ob)
        have LW := Lib.hid L0
        have h3 := Pr.sizes_take hq
        have h4 := Pr.sizes_take_le kids (k + 1)
        have h5 := Pr.depths_take hq
        have h7 := Pr.depth_le_size (.node op t n x y kids)
        have h8 := Pr.depths_take_le kids (k + 1)
        simp only [Pr.size, Pr.depth] at h7
        have h6 : s = 1 + Pr.depths (kids.take k) := HS.out
        have hs1 : max s (1 + q.depth) ≤ 1000 := by rw [h5] at h8; omega
        have HS1 := Lib.hid (show max s (1 + q.depth) = 1 + Pr.depths (kids.take (k + 1)) by rw [h5]; omega)
        have HB := Lib.hid hb
        have HQ := Lib.hid hq
        clear hb hbw hq L0 h3 h4 h5 h6 h7 h8 hV
        have l := g.cell
        have z := g.lt
        clear g
        go_wp2_with (go_at_call 25; refine (CC _ LW.out).out.mono ?_; rintro e w' ⟨rfl, hb'⟩)
        all_goals
          go_roundw
          case rel => exact ⟨k + 1, max s (1 + q.depth), by omega, by go_num, by go_num, by omega, HS1.out, HB.out.trans (hb'.mono HB.out.size)⟩
          case measure => simp [intOf]; omega
      · have HB := Lib.hid hb
        clear hb
        have l := g.cell
        have z := g.lt
        clear g
        have e : k = len := by omega
        have h5 : s = 1 + Pr.depths (kids.take k) := HS.out
        rw [Pr.take_all kids (by rw [HLEN.out]; omega)] at h5
        have H5 := Lib.hid h5
        clear h5 e
        go_wp2_with fail
        go_ret
        have h5 := H5.out
        exact ⟨ret_int (by rw [h5]; omega), below_new HB.out⟩


end Go.Proofs.Ytechmejmlelmmaa
