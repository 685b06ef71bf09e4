/- Whether a filter may be: the document's answer. -/
import Derived.Test.YtechmejmlelmmaaZero
import Derived.Deep.DeepCutAuto
import Derived.Deep.CutBlock
namespace Go.Proofs.Ytechmejmlelmmaa
set_option linter.unusedVariables false
set_option linter.unusedSimpArgs false
set_option maxRecDepth 100000
open Go.RowKit

theorem feq_00 : feq 0 0 = true := by decide +kernel
theorem bool_eq {a b : Bool} (h : a = b) : Value.bool a = .bool b := by rw [h]
theorem refPart1 (t : ByteArray) (n : Int) (x y len : Nat) : Pr.partB 1 t n x y len = zeroB false false false false t n x y len := by
  simp [Pr.partB, Pr.bareB, zeroB, inW, feq_00]
  try ac_rfl
theorem refPart2 (t : ByteArray) (n : Int) (x y len : Nat) : Pr.partB 2 t n x y len = zeroB false false false false t n x y len := by
  simp [Pr.partB, Pr.bareB, zeroB, inW, feq_00]
  try ac_rfl
theorem refPart3 (t : ByteArray) (n : Int) (x y len : Nat) : Pr.partB 3 t n x y len = (zeroB true false false false t n x y len && txtB t) := by
  simp [Pr.partB, Pr.bareB, zeroB, inW, feq_00]
  try ac_rfl
theorem refPart4 (t : ByteArray) (n : Int) (x y len : Nat) : Pr.partB 4 t n x y len = (zeroB true false false false t n x y len && txtB t) := by
  simp [Pr.partB, Pr.bareB, zeroB, inW, feq_00]
  try ac_rfl
theorem refPart5 (t : ByteArray) (n : Int) (x y len : Nat) : Pr.partB 5 t n x y len = (zeroB false true false false t n x y len && inW n (-1000000) 1000000) := by
  simp [Pr.partB, Pr.bareB, zeroB, inW, feq_00]
  try ac_rfl
theorem refPart6 (t : ByteArray) (n : Int) (x y len : Nat) : Pr.partB 6 t n x y len = (zeroB false true false false t n x y len && inW n (-1000000) 1000000) := by
  simp [Pr.partB, Pr.bareB, zeroB, inW, feq_00]
  try ac_rfl
theorem refPart7 (t : ByteArray) (n : Int) (x y len : Nat) : Pr.partB 7 t n x y len = (zeroB false true true false t n x y len && (mayB x y && inW n 0 8000000)) := by
  simp [Pr.partB, Pr.bareB, zeroB, inW, feq_00]
  try ac_rfl
theorem refPart8 (t : ByteArray) (n : Int) (x y len : Nat) : Pr.partB 8 t n x y len = zeroB false false false true t n x y len := by
  simp [Pr.partB, Pr.bareB, zeroB, inW, feq_00]
  try ac_rfl
theorem refPart9 (t : ByteArray) (n : Int) (x y len : Nat) : Pr.partB 9 t n x y len = zeroB false false false true t n x y len := by
  simp [Pr.partB, Pr.bareB, zeroB, inW, feq_00]
  try ac_rfl
theorem refPart10 (t : ByteArray) (n : Int) (x y len : Nat) : Pr.partB 10 t n x y len = (zeroB false false false true t n x y len && decide (len = 1)) := by
  simp [Pr.partB, Pr.bareB, zeroB, inW, feq_00]
  try ac_rfl

def AllRel (l : List Pr) (len : Nat) (b0 : Bool) (w0 : World) (ok i : Value) (wr : World) : Prop :=
  ∃ (k : Nat) (a : Bool), k ≤ len ∧ i = .int .i64 k ∧ ok = .bool a ∧ Hid (a = (b0 && Pr.alls (l.take k))) ∧ Below w0.heap.size w0 wr

set_option maxRecDepth 100000 in
set_option maxHeartbeats 4000000 in
theorem refFits_calls (p : Pr) : ∀ (v : Value) (w : World), LP w p v → p.size ≤ 1000 →
    Calls Try.prog 26 #[.agg #[.int .i64 p.op, .string p.text, .int .i64 p.n, .complex .f64 p.x p.y, v]] w fun e w' => e = .returned (.bool p.all) ∧ Below w.heap.size w w' := by
  induction p using Pr.ind with
  | h op t n x y kids ih =>
    intro v w hL hsz
    obtain ⟨oa, cap, b, o, V, rfl, ht, hl, hc, hn, hcell, hrec⟩ := lies_slice hL
    simp only [Pr.kids_node, Pr.text_node, Pr.op_node, Pr.n_node, Pr.x_node, Pr.y_node, Pr.size] at *
    have HT := fun w => Lib.hid (refText_calls t w ht)
    have HM := fun w => Lib.hid (place_calls x y w)
    unfold maxLen at hc
    have h1000 := Pr.len_le_sizes kids
    have HC := Lib.hid hcell
    have HR := Lib.hid hrec
    have HN := Lib.hid hn
    have HI := Lib.hid ih
    clear hL hcell hrec hn ih
    generalize hlen : kids.length = len at *
    have HLEN := Lib.hid hlen
    clear hlen
    go_enter Try.func26, Try.ntmps26
    go_upto_block 0 with (first
      | (go_at_call 32; refine (HT _).out.mono ?_; rintro e w' ⟨rfl, rfl⟩)
      | (go_at_call 33; refine (HM _).out.mono ?_; rintro e w' ⟨rfl, rfl⟩))
    go_cut [3, 5] (fun s3 _ wx => s3 = .bool (Pr.partB op t n x y len) ∧ Hid (Below w.heap.size w wx ∧ Has wx w.heap.size #[.int .i64 op, .string t, .int .i64 n, .complex .f64 x y, .slice oa len cap]))
    case first =>
      clear HC HR HN HI HT HM HLEN
      have Z := fun bt bn ba bk op n w => Lib.hid (zero_calls bt bn ba bk op t n x y oa len cap w)
      have G := Lib.hid (Own.new w #[.int .i64 op, .string t, .int .i64 n, .complex .f64 x y, .slice oa len cap] 37)
      have hop : op = 1 ∨ op = 2 ∨ op = 3 ∨ op = 4 ∨ op = 5 ∨ op = 6 ∨ op = 7 ∨ op = 8 ∨ op = 9 ∨ op = 10 ∨ (op ≠ 1 ∧ op ≠ 2 ∧ op ≠ 3 ∧ op ≠ 4 ∧ op ≠ 5 ∧ op ≠ 6 ∧ op ≠ 7 ∧ op ≠ 8 ∧ op ≠ 9 ∧ op ≠ 10) := by omega
      rcases hop with rfl | rfl | rfl | rfl | rfl | rfl | rfl | rfl | rfl | rfl | ⟨n1, n2, n3, n4, n5, n6, n7, n8, n9, n10⟩
      · have E := Lib.hid (refPart1 t n x y len)
        go_wp2_with (go_at_call 34; refine (Z _ _ _ _ _ _ _).out.mono ?_; rintro e w' ⟨rfl, hb⟩; have hg := (G.out.later hb).cell)
        all_goals
          go_meet
          refine ⟨bool_eq ?_, below_new hb, (G.out.later hb).has⟩
          rw [E.out]
          try (first | (simp_all [inW]; done) | (simp_all [inW]; omega))
      · have E := Lib.hid (refPart2 t n x y len)
        go_wp2_with (go_at_call 34; refine (Z _ _ _ _ _ _ _).out.mono ?_; rintro e w' ⟨rfl, hb⟩; have hg := (G.out.later hb).cell)
        all_goals
          go_meet
          refine ⟨bool_eq ?_, below_new hb, (G.out.later hb).has⟩
          rw [E.out]
          try (first | (simp_all [inW]; done) | (simp_all [inW]; omega))
      · have E := Lib.hid (refPart3 t n x y len)
        go_wp2_with (go_at_call 34; refine (Z _ _ _ _ _ _ _).out.mono ?_; rintro e w' ⟨rfl, hb⟩; have hg := (G.out.later hb).cell)
        all_goals
          go_meet
          refine ⟨bool_eq ?_, below_new hb, (G.out.later hb).has⟩
          rw [E.out]
          try (first | (simp_all [inW]; done) | (simp_all [inW]; omega))
      · have E := Lib.hid (refPart4 t n x y len)
        go_wp2_with (go_at_call 34; refine (Z _ _ _ _ _ _ _).out.mono ?_; rintro e w' ⟨rfl, hb⟩; have hg := (G.out.later hb).cell)
        all_goals
          go_meet
          refine ⟨bool_eq ?_, below_new hb, (G.out.later hb).has⟩
          rw [E.out]
          try (first | (simp_all [inW]; done) | (simp_all [inW]; omega))
      · have E := Lib.hid (refPart5 t n x y len)
        go_wp2_with (go_at_call 34; refine (Z _ _ _ _ _ _ _).out.mono ?_; rintro e w' ⟨rfl, hb⟩; have hg := (G.out.later hb).cell)
        all_goals
          go_meet
          refine ⟨bool_eq ?_, below_new hb, (G.out.later hb).has⟩
          rw [E.out]
          try (first | (simp_all [inW]; done) | (simp_all [inW]; omega))
      · have E := Lib.hid (refPart6 t n x y len)
        go_wp2_with (go_at_call 34; refine (Z _ _ _ _ _ _ _).out.mono ?_; rintro e w' ⟨rfl, hb⟩; have hg := (G.out.later hb).cell)
        all_goals
          go_meet
          refine ⟨bool_eq ?_, below_new hb, (G.out.later hb).has⟩
          rw [E.out]
          try (first | (simp_all [inW]; done) | (simp_all [inW]; omega))
      · have E := Lib.hid (refPart7 t n x y len)
        go_wp2_with (go_at_call 34; refine (Z _ _ _ _ _ _ _).out.mono ?_; rintro e w' ⟨rfl, hb⟩; have hg := (G.out.later hb).cell)
        all_goals
          go_meet
          refine ⟨bool_eq ?_, below_new hb, (G.out.later hb).has⟩
          rw [E.out]
          try (first | (simp_all [inW]; done) | (simp_all [inW]; omega))
      · have E := Lib.hid (refPart8 t n x y len)
        go_wp2_with (go_at_call 34; refine (Z _ _ _ _ _ _ _).out.mono ?_; rintro e w' ⟨rfl, hb⟩; have hg := (G.out.later hb).cell)
        all_goals
          go_meet
          refine ⟨bool_eq ?_, below_new hb, (G.out.later hb).has⟩
          rw [E.out]
          try (first | (simp_all [inW]; done) | (simp_all [inW]; omega))
      · have E := Lib.hid (refPart9 t n x y len)
        go_wp2_with (go_at_call 34; refine (Z _ _ _ _ _ _ _).out.mono ?_; rintro e w' ⟨rfl, hb⟩; have hg := (G.out.later hb).cell)
        all_goals
          go_meet
          refine ⟨bool_eq ?_, below_new hb, (G.out.later hb).has⟩
          rw [E.out]
          try (first | (simp_all [inW]; done) | (simp_all [inW]; omega))
      · have E := Lib.hid (refPart10 t n x y len)
        have f2 := len_one len
        go_wp2_with (go_at_call 34; refine (Z _ _ _ _ _ _ _).out.mono ?_; rintro e w' ⟨rfl, hb⟩; have hg := (G.out.later hb).cell)
        all_goals
          go_meet
          refine ⟨bool_eq ?_, below_new hb, (G.out.later hb).has⟩
          rw [E.out]
          try (first | (simp_all [inW]; done) | (simp_all [inW]; omega))
      · have E := Lib.hid (show Pr.partB op t n x y len = false by simp [Pr.partB, n1, n2, n3, n4, n5, n6, n7, n8, n9, n10])
        go_wp2_with fail
        all_goals
          go_meet
          exact ⟨bool_eq E.out.symm, (Below.refl _ _).alloc (Nat.le_refl _) _, G.out.has⟩
    case rest =>
      obtain ⟨rfl, hh⟩ := hcut
      obtain ⟨hB, g0⟩ := Hid.out hh
      have HBW := Lib.hid hB
      clear hh hB HT HM
      generalize hb0 : Pr.partB op t n x y len = b0
      have HP := Lib.hid hb0
      clear hb0
      go_wp2_with fail
      go_loopw [3, 6] (fun ok i wr => AllRel kids len b0 wc ok i wr) (fun _ i _ => len - (intOf i).toNat)
      case atStart => exact ⟨0, b0, Nat.zero_le _, rfl, rfl, by simp [Hid, Pr.alls], Below.refl _ _⟩
      case round =>
        obtain ⟨k, a, hk, rfl, rfl, HA, hb⟩ := hrel
        have g := g0.below hb g0.lt
        by_cases hlt : k < len
        · obtain ⟨q, hq⟩ : ∃ q, kids[k]? = some q := ⟨_, List.getElem?_eq_getElem (by rw [HLEN.out]; exact hlt)⟩
          obtain ⟨rfl, hB⟩ := HN.out (by omega)
          obtain ⟨oq, cq, hV⟩ := lies_val (HR.out k q hq)
          have hbw : Below w.heap.size w wr := HBW.out.trans (hb.mono HBW.out.size)
          obtain ⟨c0, c1, c2, c3, c4⟩ := pc_cells (w := wr) (fun j u hu => (hbw.cell (p := ⟨b, o + k * 5 + j, none⟩) hB).trans (HC.out k q hq j u hu))
          have L0 := (HR.out k q hq).later hbw (Nat.le_refl _)
          rw [hV] at c4 L0
          have hqs := Pr.size_mem (List.mem_of_getElem? hq)
          have CC := Lib.hid (HI.out q (List.mem_of_getElem? hq) (.slice oq q.kids.length cq) wr L0 (by omega))
          have h6 := Pr.alls_take hq
          have HA1 := Lib.hid (show (a && q.all) = (b0 && Pr.alls (kids.take (k + 1))) by rw [h6, HA.out, Bool.and_assoc])
          have HB := Lib.hid hb
          clear hb hbw hq L0 h6 hV
          generalize q.all = qa at *
          have l := g.cell
          have z := g.lt
          clear g
          go_wp2_with (go_at_call 26; refine CC.out.mono ?_; rintro e w' ⟨rfl, hb'⟩)
          all_goals
            go_roundw
            case rel => exact ⟨k + 1, a && qa, by omega, by go_num, by simp_all, HA1.out, HB.out.trans (hb'.mono HB.out.size)⟩
            case measure => simp [intOf]; omega
        · have HB := Lib.hid hb
          clear hb
          have l := g.cell
          have z := g.lt
          clear g
          have e : k = len := by omega
          have h7 := HA.out
          rw [Pr.take_all kids (by rw [HLEN.out]; omega)] at h7
          have HE := Lib.hid (show a = (Pr.node op t n x y kids).all by rw [h7]; simp only [Pr.all]; rw [HLEN.out, HP.out])
          clear h7 e
          go_wp2_with fail
          go_ret
          exact ⟨ret_bool HE.out, HBW.out.trans (HB.out.mono HBW.out.size)⟩

end Go.Proofs.Ytechmejmlelmmaa
