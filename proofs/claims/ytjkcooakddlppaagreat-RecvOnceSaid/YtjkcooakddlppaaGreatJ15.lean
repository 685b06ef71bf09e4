/- Joined: Zero, RefFits, OpenL, Same. -/
import Derived.Test.YtjkcooakddlppaaGreatJ13
import Derived.Deep.DeepCutAuto
import Derived.Deep.CutBlock
import Derived.Test.YtjkcooakddlppaaGreatJ14
import Derived.Test.YtjkcooakddlppaaGreatJ02
/- Whether a filter may be: the document's answer. -/
namespace Go.Proofs.YtjkcooakddlppaaGreat
set_option linter.unusedVariables false
set_option linter.unusedSimpArgs false
set_option maxRecDepth 100000
open Go.RowKit
def zeroB (bt bn ba bk : Bool) (t : ByteArray) (n : Int) (x y len : Nat) : Bool :=
  (bt || decide (t.toList = [])) && ((bn || decide (n = 0)) && ((ba || (feq x 0 && feq y 0)) && (bk || decide (len = 0))))
theorem len_pos (k : Nat) : decide ((0 : Int) < (k : Int)) = !decide (k = 0) := by
  rw [Bool.eq_iff_iff]; simp; omega
set_option maxHeartbeats 4000000 in
theorem zero_calls (bt bn ba bk : Bool) (op : Int) (t : ByteArray) (n : Int) (x y : Nat) (oa : Option Addr) (len cap : Nat) (w : World) :
    Calls Tryz.prog 126 #[.agg #[.int .i64 op, .string t, .int .i64 n, .complex .f64 x y, .slice oa len cap], .bool bt, .bool bn, .bool ba, .bool bk] w fun e w' => e = .returned (.bool (zeroB bt bn ba bk t n x y len)) ∧ Below w.heap.size w w' := by
  have f1 : ∀ x y, (FloatKind.f64.format.order x y == some .eq) = feq x y := fun _ _ => rfl
  cases bt <;> cases bn <;> cases ba <;> cases bk
  all_goals
    go_enter Tryz.func126, Tryz.ntmps126
    go_wp2
    all_goals
      go_ret
      refine ⟨ret_bool ?_, (Below.refl _ _).alloc (Nat.le_refl _) _⟩
      first
        | (simp_all [zeroB, len_pos]; done)
        | (have hl0 : ¬ len = 0 := by omega
           simp_all [zeroB, len_pos])
end Go.Proofs.YtjkcooakddlppaaGreat
/- Whether a filter may be: the document's answer. -/
namespace Go.Proofs.YtjkcooakddlppaaGreat
set_option linter.unusedVariables false
set_option linter.unusedSimpArgs false
set_option maxRecDepth 100000
open Go.RowKit
theorem feq_00 : feq 0 0 = true := by decide +kernel
theorem bool_eq {a b : Bool} (h : a = b) : Value.bool a = .bool b := by rw [h]
theorem refPart1 (t : ByteArray) (n : Int) (x y len : Nat) : Pr.partB 1 t n x y len = zeroB false false false false t n x y len := by
  simp [Pr.partB, Pr.bareB, zeroB, inW, feq_00]
  try ac_rfl
theorem refPart2 (t : ByteArray) (n : Int) (x y len : Nat) : Pr.partB 2 t n x y len = zeroB false false false false t n x y len := by
  simp [Pr.partB, Pr.bareB, zeroB, inW, feq_00]
  try ac_rfl
theorem refPart3 (t : ByteArray) (n : Int) (x y len : Nat) : Pr.partB 3 t n x y len = (zeroB true false false false t n x y len && txtB t) := by
  simp [Pr.partB, Pr.bareB, zeroB, inW, feq_00]
  try ac_rfl
theorem refPart4 (t : ByteArray) (n : Int) (x y len : Nat) : Pr.partB 4 t n x y len = (zeroB true false false false t n x y len && txtB t) := by
  simp [Pr.partB, Pr.bareB, zeroB, inW, feq_00]
  try ac_rfl
theorem refPart5 (t : ByteArray) (n : Int) (x y len : Nat) : Pr.partB 5 t n x y len = (zeroB false true false false t n x y len && inW n (-1000000) 1000000) := by
  simp [Pr.partB, Pr.bareB, zeroB, inW, feq_00]
  try ac_rfl
theorem refPart6 (t : ByteArray) (n : Int) (x y len : Nat) : Pr.partB 6 t n x y len = (zeroB false true false false t n x y len && inW n (-1000000) 1000000) := by
  simp [Pr.partB, Pr.bareB, zeroB, inW, feq_00]
  try ac_rfl
theorem refPart7 (t : ByteArray) (n : Int) (x y len : Nat) : Pr.partB 7 t n x y len = (zeroB false true true false t n x y len && (mayB x y && inW n 0 8000000)) := by
  simp [Pr.partB, Pr.bareB, zeroB, inW, feq_00]
  try ac_rfl
theorem refPart8 (t : ByteArray) (n : Int) (x y len : Nat) : Pr.partB 8 t n x y len = zeroB false false false true t n x y len := by
  simp [Pr.partB, Pr.bareB, zeroB, inW, feq_00]
  try ac_rfl
theorem refPart9 (t : ByteArray) (n : Int) (x y len : Nat) : Pr.partB 9 t n x y len = zeroB false false false true t n x y len := by
  simp [Pr.partB, Pr.bareB, zeroB, inW, feq_00]
  try ac_rfl
theorem refPart10 (t : ByteArray) (n : Int) (x y len : Nat) : Pr.partB 10 t n x y len = (zeroB false false false true t n x y len && decide (len = 1)) := by
  simp [Pr.partB, Pr.bareB, zeroB, inW, feq_00]
  try ac_rfl
def AllRel (l : List Pr) (len : Nat) (b0 : Bool) (w0 : World) (ok i : Value) (wr : World) : Prop :=
  ∃ (k : Nat) (a : Bool), k ≤ len ∧ i = .int .i64 k ∧ ok = .bool a ∧ Hid (a = (b0 && Pr.alls (l.take k))) ∧ Below w0.heap.size w0 wr
set_option maxRecDepth 100000 in
set_option maxHeartbeats 4000000 in
theorem refFits_calls (p : Pr) : ∀ (v : Value) (w : World), LP w p v → p.size ≤ 1000 →
    Calls Tryz.prog 79 #[.agg #[.int .i64 p.op, .string p.text, .int .i64 p.n, .complex .f64 p.x p.y, v]] w fun e w' => e = .returned (.bool p.all) ∧ Below w.heap.size w w' := by
  induction p using Pr.ind with
  | h op t n x y kids ih =>
    intro v w hL hsz
    obtain ⟨oa, cap, b, o, V, rfl, ht, hl, hc, hn, hcell, hrec⟩ := lies_slice hL
    simp only [Pr.kids_node, Pr.text_node, Pr.op_node, Pr.n_node, Pr.x_node, Pr.y_node, Pr.size] at *
    have HT := fun w => Lib.hid (refText_calls t w ht)
    have HM := fun w => Lib.hid (place_calls x y w)
    unfold maxLen at hc
    have h1000 := Pr.len_le_sizes kids
    have HC := Lib.hid hcell
    have HR := Lib.hid hrec
    have HN := Lib.hid hn
    have HI := Lib.hid ih
    clear hL hcell hrec hn ih
    generalize hlen : kids.length = len at *
    have HLEN := Lib.hid hlen
    clear hlen
    go_enter Tryz.func79, Tryz.ntmps79
    go_upto_block 0 with (first
      | (go_at_call 98; refine (HT _).out.mono ?_; rintro e w' ⟨rfl, rfl⟩)
      | (go_at_call 99; refine (HM _).out.mono ?_; rintro e w' ⟨rfl, rfl⟩))
    go_cut [3, 5] (fun s3 _ wx => s3 = .bool (Pr.partB op t n x y len) ∧ Hid (Below w.heap.size w wx ∧ Has wx w.heap.size #[.int .i64 op, .string t, .int .i64 n, .complex .f64 x y, .slice oa len cap]))
    case first =>
      clear HC HR HN HI HT HM HLEN
      have Z := fun bt bn ba bk op n w => Lib.hid (zero_calls bt bn ba bk op t n x y oa len cap w)
      have G := Lib.hid (Own.new w #[.int .i64 op, .string t, .int .i64 n, .complex .f64 x y, .slice oa len cap] 43)
      have hop : op = 1 ∨ op = 2 ∨ op = 3 ∨ op = 4 ∨ op = 5 ∨ op = 6 ∨ op = 7 ∨ op = 8 ∨ op = 9 ∨ op = 10 ∨ (op ≠ 1 ∧ op ≠ 2 ∧ op ≠ 3 ∧ op ≠ 4 ∧ op ≠ 5 ∧ op ≠ 6 ∧ op ≠ 7 ∧ op ≠ 8 ∧ op ≠ 9 ∧ op ≠ 10) := by omega
      rcases hop with rfl | rfl | rfl | rfl | rfl | rfl | rfl | rfl | rfl | rfl | ⟨n1, n2, n3, n4, n5, n6, n7, n8, n9, n10⟩
      · have E := Lib.hid (refPart1 t n x y len)
        go_wp2_with (go_at_call 126; refine (Z _ _ _ _ _ _ _).out.mono ?_; rintro e w' ⟨rfl, hb⟩; have hg := (G.out.later hb).cell)
        all_goals
          go_meet
          refine ⟨bool_eq ?_, below_new hb, (G.out.later hb).has⟩
          rw [E.out]
          try (first | (simp_all [inW]; done) | (simp_all [inW]; omega))
      · have E := Lib.hid (refPart2 t n x y len)
        go_wp2_with (go_at_call 126; refine (Z _ _ _ _ _ _ _).out.mono ?_; rintro e w' ⟨rfl, hb⟩; have hg := (G.out.later hb).cell)
        all_goals
          go_meet
          refine ⟨bool_eq ?_, below_new hb, (G.out.later hb).has⟩
          rw [E.out]
          try (first | (simp_all [inW]; done) | (simp_all [inW]; omega))
      · have E := Lib.hid (refPart3 t n x y len)
        go_wp2_with (go_at_call 126; refine (Z _ _ _ _ _ _ _).out.mono ?_; rintro e w' ⟨rfl, hb⟩; have hg := (G.out.later hb).cell)
        all_goals
          go_meet
          refine ⟨bool_eq ?_, below_new hb, (G.out.later hb).has⟩
          rw [E.out]
          try (first | (simp_all [inW]; done) | (simp_all [inW]; omega))
      · have E := Lib.hid (refPart4 t n x y len)
        go_wp2_with (go_at_call 126; refine (Z _ _ _ _ _ _ _).out.mono ?_; rintro e w' ⟨rfl, hb⟩; have hg := (G.out.later hb).cell)
        all_goals
          go_meet
          refine ⟨bool_eq ?_, below_new hb, (G.out.later hb).has⟩
          rw [E.out]
          try (first | (simp_all [inW]; done) | (simp_all [inW]; omega))
      · have E := Lib.hid (refPart5 t n x y len)
        go_wp2_with (go_at_call 126; refine (Z _ _ _ _ _ _ _).out.mono ?_; rintro e w' ⟨rfl, hb⟩; have hg := (G.out.later hb).cell)
        all_goals
          go_meet
          refine ⟨bool_eq ?_, below_new hb, (G.out.later hb).has⟩
          rw [E.out]
          try (first | (simp_all [inW]; done) | (simp_all [inW]; omega))
      · have E := Lib.hid (refPart6 t n x y len)
        go_wp2_with (go_at_call 126; refine (Z _ _ _ _ _ _ _).out.mono ?_; rintro e w' ⟨rfl, hb⟩; have hg := (G.out.later hb).cell)
        all_goals
          go_meet
          refine ⟨bool_eq ?_, below_new hb, (G.out.later hb).has⟩
          rw [E.out]
          try (first | (simp_all [inW]; done) | (simp_all [inW]; omega))
      · have E := Lib.hid (refPart7 t n x y len)
        go_wp2_with (go_at_call 126; refine (Z _ _ _ _ _ _ _).out.mono ?_; rintro e w' ⟨rfl, hb⟩; have hg := (G.out.later hb).cell)
        all_goals
          go_meet
          refine ⟨bool_eq ?_, below_new hb, (G.out.later hb).has⟩
          rw [E.out]
          try (first | (simp_all [inW]; done) | (simp_all [inW]; omega))
      · have E := Lib.hid (refPart8 t n x y len)
        go_wp2_with (go_at_call 126; refine (Z _ _ _ _ _ _ _).out.mono ?_; rintro e w' ⟨rfl, hb⟩; have hg := (G.out.later hb).cell)
        all_goals
          go_meet
          refine ⟨bool_eq ?_, below_new hb, (G.out.later hb).has⟩
          rw [E.out]
          try (first | (simp_all [inW]; done) | (simp_all [inW]; omega))
      · have E := Lib.hid (refPart9 t n x y len)
        go_wp2_with (go_at_call 126; refine (Z _ _ _ _ _ _ _).out.mono ?_; rintro e w' ⟨rfl, hb⟩; have hg := (G.out.later hb).cell)
        all_goals
          go_meet
          refine ⟨bool_eq ?_, below_new hb, (G.out.later hb).has⟩
          rw [E.out]
          try (first | (simp_all [inW]; done) | (simp_all [inW]; omega))
      · have E := Lib.hid (refPart10 t n x y len)
        have f2 := len_one len
        go_wp2_with (go_at_call 126; refine (Z _ _ _ _ _ _ _).out.mono ?_; rintro e w' ⟨rfl, hb⟩; have hg := (G.out.later hb).cell)
        all_goals
          go_meet
          refine ⟨bool_eq ?_, below_new hb, (G.out.later hb).has⟩
          rw [E.out]
          try (first | (simp_all [inW]; done) | (simp_all [inW]; omega))
      · have E := Lib.hid (show Pr.partB op t n x y len = false by simp [Pr.partB, n1, n2, n3, n4, n5, n6, n7, n8, n9, n10])
        go_wp2_with fail
        all_goals
          go_meet
          exact ⟨bool_eq E.out.symm, (Below.refl _ _).alloc (Nat.le_refl _) _, G.out.has⟩
    case rest =>
      obtain ⟨rfl, hh⟩ := hcut
      obtain ⟨hB, g0⟩ := Hid.out hh
      have HBW := Lib.hid hB
      clear hh hB HT HM
      generalize hb0 : Pr.partB op t n x y len = b0
      have HP := Lib.hid hb0
      clear hb0
      go_wp2_with fail
      go_loopw [3, 6] (fun ok i wr => AllRel kids len b0 wc ok i wr) (fun _ i _ => len - (intOf i).toNat)
      case atStart => exact ⟨0, b0, Nat.zero_le _, rfl, rfl, by simp [Hid, Pr.alls], Below.refl _ _⟩
      case round =>
        obtain ⟨k, a, hk, rfl, rfl, HA, hb⟩ := hrel
        have g := g0.below hb g0.lt
        by_cases hlt : k < len
        · obtain ⟨q, hq⟩ : ∃ q, kids[k]? = some q := ⟨_, List.getElem?_eq_getElem (by rw [HLEN.out]; exact hlt)⟩
          obtain ⟨rfl, hB⟩ := HN.out (by omega)
          obtain ⟨oq, cq, hV⟩ := lies_val (HR.out k q hq)
          have hbw : Below w.heap.size w wr := HBW.out.trans (hb.mono HBW.out.size)
          obtain ⟨c0, c1, c2, c3, c4⟩ := pc_cells (w := wr) (fun j u hu => (hbw.cell (p := ⟨b, o + k * 5 + j, none⟩) hB).trans (HC.out k q hq j u hu))
          have L0 := (HR.out k q hq).later hbw (Nat.le_refl _)
          rw [hV] at c4 L0
          have hqs := Pr.size_mem (List.mem_of_getElem? hq)
          have CC := Lib.hid (HI.out q (List.mem_of_getElem? hq) (.slice oq q.kids.length cq) wr L0 (by omega))
          have h6 := Pr.alls_take hq
          have HA1 := Lib.hid (show (a && q.all) = (b0 && Pr.alls (kids.take (k + 1))) by rw [h6, HA.out, Bool.and_assoc])
          have HB := Lib.hid hb
          clear hb hbw hq L0 h6 hV
          generalize q.all = qa at *
          have l := g.cell
          have z := g.lt
          clear g
          go_wp2_with (go_at_call 79; refine CC.out.mono ?_; rintro e w' ⟨rfl, hb'⟩)
          all_goals
            go_roundw
            case rel => exact ⟨k + 1, a && qa, by omega, by go_num, by simp_all, HA1.out, HB.out.trans (hb'.mono HB.out.size)⟩
            case measure => simp [intOf]; omega
        · have HB := Lib.hid hb
          clear hb
          have l := g.cell
          have z := g.lt
          clear g
          have e : k = len := by omega
          have h7 := HA.out
          rw [Pr.take_all kids (by rw [HLEN.out]; omega)] at h7
          have HE := Lib.hid (show a = (Pr.node op t n x y kids).all by rw [h7]; simp only [Pr.all]; rw [HLEN.out, HP.out])
          clear h7 e
          go_wp2_with fail
          go_ret
          exact ⟨ret_bool HE.out, HBW.out.trans (HB.out.mono HBW.out.size)⟩
end Go.Proofs.YtjkcooakddlppaaGreat
/- What the arguments of the laws read as: rows of plain rows. -/
namespace Go.Proofs.YtjkcooakddlppaaGreat
set_option linter.unusedVariables false
set_option linter.unusedSimpArgs false
set_option maxRecDepth 100000
open Go.ChangeShapes Go.WideShapes Go.ChangeAt Go.RowKit Go.Deep
section
variable {H : Type} {enc : TypeId × Value → H} {w : World} {base : Nat} {spare : Nat → Bool} {held : Bool} {fuel : Nat} {cs : List Value} {x : DataW H × List MemPlace}
set_option maxRecDepth 100000 in
theorem trod_rows (h : DataW.trod enc Tryz.prog w base spare held fuel 26 cs = some x) : ∃ (l : List Itm) (v : Value), cs = [v] ∧ Row 9 rc w l v := by
  rcases open_slice Tryz.underlying26 h with ⟨rfl, _⟩ | ⟨a, len, cap, m, n, D, Pl, rfl, _, hl, hm, hmm, _, hx⟩
  · exact ⟨[], _, rfl, none, 0, 0, 0, rfl, Nat.le_refl _, by decide, fun h => absurd h (by simp), fun k f hk => by simp at hk, fun i hi => by simp at hi⟩
  · have hlm : len ≤ m := by rw [hmm]; split <;> omega
    have hC : Tryz.prog.cellsOf 35 = 9 := by kernel_rfl
    rw [hC] at hx
    have key : ∀ i, i < len → ∃ (f : Itm), (∀ j z, (rc f)[j]? = some z → w.cell? (a.add (i * 9 + j)) = some z) ∧ f.id.size ≤ maxLen ∧ f.kd.size ≤ maxLen := by
      intro i hi
      obtain ⟨cs', h2, h3⟩ := hx i (by omega)
      obtain ⟨_, hcl, hat⟩ := World.cells?_some h2
      obtain ⟨id, r, c, st, kd, n, x, y, d, rfl, h4, h5, _⟩ := trod_row h3
      refine ⟨⟨id, r, c, st, kd, n, x, y, d⟩, fun j z hz => ?_, h4, h5⟩
      have hj : j < 9 := (List.getElem?_eq_some_iff.1 hz).1
      rw [← Go.Deep.add_add, hat j hj, hz]
    classical
    let F : Nat → Itm := fun i => if h : i < len then (key i h).choose else Itm.zero
    have hF : ∀ i, i < len → (∀ j z, (rc (F i))[j]? = some z → w.cell? (a.add (i * 9 + j)) = some z) ∧ (F i).id.size ≤ maxLen ∧ (F i).kd.size ≤ maxLen := by
      intro i hi
      have := (key i hi).choose_spec
      simp only [F, dif_pos hi]
      exact this
    have hlk : ((List.range len).map F).length = len := by simp
    have hs : 0 < len → a.spot = none ∧ a.block < w.heap.size := by
      intro h0
      have h1 := (hF 0 h0).1 0 _ rfl
      have e : a.add (0 * 9 + 0) = a := by simp [Addr.add]
      rw [e] at h1
      exact ⟨World.cell?_spot h1, World.block_lt_of_cell? w _ h1⟩
    refine ⟨(List.range len).map F, _, rfl, some a, cap, a.block, a.off, by rw [hlk], by rw [hlk]; exact hl, hm, fun h => ?_, fun k f hk j z hz => ?_, fun f hf => ?_⟩
    · rw [hlk] at h
      exact ⟨congrArg some (addr_lit (hs h).1), (hs h).2⟩
    · obtain ⟨hk', rfl⟩ := map_range F hk
      have h1 := (hF k hk').1 j z hz
      rw [addr_at (hs (by omega)).1] at h1
      rw [Nat.add_assoc]; exact h1
    · obtain ⟨k, hk, e⟩ := List.mem_iff_getElem.1 hf
      obtain ⟨hk', rfl⟩ := map_range F (by rw [List.getElem?_eq_getElem hk, e])
      exact (hF k hk').2
end
end Go.Proofs.YtjkcooakddlppaaGreat
/- Whether two filters are the same: the walks; and the document's May. -/
namespace Go.Proofs.YtjkcooakddlppaaGreat
set_option linter.unusedVariables false
set_option linter.unusedSimpArgs false
set_option maxRecDepth 100000
open Go.RowKit
set_option maxHeartbeats 1000000 in
theorem refMay3_calls (p : Pr) (v : Value) (w : World) (hL : LP w p v) (hsz : p.size ≤ 1000) :
    Calls Tryz.prog 32 #[.agg #[.int .i64 p.op, .string p.text, .int .i64 p.n, .complex .f64 p.x p.y, v]] w fun e w' => e = .returned (.bool p.mayB) ∧ Below w.heap.size w w' := by
  obtain ⟨oq, cq, rfl⟩ := lies_val hL
  have S := fun w' h => Lib.hid (refSize_calls p (.slice oq p.kids.length cq) w' h hsz)
  have D := fun w' h => Lib.hid (refDepth_calls p (.slice oq p.kids.length cq) w' h hsz)
  have A := fun w' h => Lib.hid (refFits_calls p (.slice oq p.kids.length cq) w' h hsz)
  have L0 := hL.atAlloc (.cells #[.int .i64 p.op, .string p.text, .int .i64 p.n, .complex .f64 p.x p.y, .slice oq p.kids.length cq] 43)
  have G0 := Lib.hid (Own.new w #[.int .i64 p.op, .string p.text, .int .i64 p.n, .complex .f64 p.x p.y, .slice oq p.kids.length cq] 43)
  have L := Lib.hid L0
  clear hL L0
  have e : p.mayB = (decide ((p.size : Int) ≤ 30) && (decide ((p.depth : Int) ≤ 6) && p.all)) := rfl
  rw [e]
  clear e
  by_cases h1 : (p.size : Int) ≤ 30
  · by_cases h2 : (p.depth : Int) ≤ 6
    · rw [decide_eq_true h1, decide_eq_true h2, Bool.true_and, Bool.true_and]
      generalize p.all = pa at *
      go_enter Tryz.func32, Tryz.ntmps32
      go_wp2_with fail
      refine (S _ L.out).out.mono ?_; rintro e w1 ⟨rfl, hb1⟩
      have G1 := Lib.hid (G0.out.later hb1)
      have L1 := Lib.hid (L.out.later hb1 (Nat.le_refl _))
      have B1 := Lib.hid (below_new hb1)
      clear hb1
      have l1 := G1.out.cell
      go_wp2_with fail
      refine (D _ L1.out).out.mono ?_; rintro e w2 ⟨rfl, hb2⟩
      have G2 := Lib.hid (G1.out.later hb2)
      have L2 := Lib.hid (L1.out.later hb2 (Nat.le_refl _))
      have B2 := Lib.hid (B1.out.trans (hb2.mono B1.out.size))
      clear hb2 l1
      have l2 := G2.out.cell
      go_wp2_with fail
      refine (A _ L2.out).out.mono ?_; rintro e w3 ⟨rfl, hb3⟩
      go_wp2_with fail
      go_ret
      exact ⟨rfl, B2.out.trans (hb3.mono B2.out.size)⟩
    · rw [decide_eq_true h1, decide_eq_false h2, Bool.true_and, Bool.false_and]
      go_enter Tryz.func32, Tryz.ntmps32
      go_wp2_with fail
      refine (S _ L.out).out.mono ?_; rintro e w1 ⟨rfl, hb1⟩
      have G1 := Lib.hid (G0.out.later hb1)
      have L1 := Lib.hid (L.out.later hb1 (Nat.le_refl _))
      have B1 := Lib.hid (below_new hb1)
      clear hb1
      have l1 := G1.out.cell
      go_wp2_with fail
      refine (D _ L1.out).out.mono ?_; rintro e w2 ⟨rfl, hb2⟩
      go_wp2_with fail
      go_ret
      exact ⟨rfl, B1.out.trans (hb2.mono B1.out.size)⟩
  · rw [decide_eq_false h1, Bool.false_and]
    go_enter Tryz.func32, Tryz.ntmps32
    go_wp2_with fail
    refine (S _ L.out).out.mono ?_; rintro e w1 ⟨rfl, hb1⟩
    go_wp2_with fail
    go_ret
    exact ⟨rfl, below_new hb1⟩
abbrev LK (w : World) (l : List Pr) (v : Value) : Prop := LP w (.node 0 ⟨#[]⟩ 0 0 0 l) v
theorem lies_kids {w : World} {p : Pr} {v : Value} (h : LP w p v) : LK w p.kids v := by
  cases h with
  | mk op t n x y kids oa cap b o V ht hl hc hn hcell hrec => exact .mk _ _ _ _ _ kids oa cap b o V (by decide) hl hc hn hcell hrec
def EqRel (l m : List Pr) (len : Nat) (w0 : World) (i : Value) (wr : World) : Prop :=
  ∃ k : Nat, k ≤ len ∧ i = .int .i64 k ∧ Hid (Pr.sames (l.take k) (m.take k) = true) ∧ Below w0.heap.size w0 wr
end Go.Proofs.YtjkcooakddlppaaGreat
