/- Whether a filter may be: the code's walks. -/
import Derived.Test.YtechmejmlelmmaaPart
import Derived.Test.YtechmejmlelmmaaRefSize
namespace Go.Proofs.Ytechmejmlelmmaa
set_option linter.unusedVariables false
set_option linter.unusedSimpArgs false
set_option maxRecDepth 100000
open Go.RowKit

theorem fits_size {p : Pr} {s d : Int} (h : s < p.size) : p.fitsB s d = false := by
  unfold Pr.fitsB; simp; omega
theorem fits_depth {p : Pr} {s d : Int} (h : d < p.depth) : p.fitsB s d = false := by
  unfold Pr.fitsB; simp; omega
theorem fits_all {p : Pr} {s d : Int} (h : p.all = false) : p.fitsB s d = false := by
  unfold Pr.fitsB; simp [h]
theorem fits_true {p : Pr} {s d : Int} : p.fitsB s d = true ↔ (p.size : Int) ≤ s ∧ (p.depth : Int) ≤ d ∧ p.all = true := by
  unfold Pr.fitsB; simp
theorem alls_mem_false {l : List Pr} {q : Pr} (h : q ∈ l) (ha : q.all = false) : Pr.alls l = false := by
  cases e : Pr.alls l with
  | false => rfl
  | true => rw [Pr.all_mem h e] at ha; cases ha
/-- One of Kids doesn't fit into what is left. -/
theorem fits_kid {op : Int} {t : ByteArray} {n : Int} {x y : Nat} {kids : List Pr} {k : Nat} {q : Pr} {s d r : Int} (hq : kids[k]? = some q) (hr : s = r + 1 + (Pr.sizes (kids.take k) : Nat)) (h : q.fitsB r (d - 1) = false) :
    (Pr.node op t n x y kids).fitsB s d = false := by
  have h1 := Pr.sizes_take hq
  have h2 := Pr.sizes_take_le kids (k + 1)
  have h3 := Pr.depth_mem (List.mem_of_getElem? hq)
  by_cases c1 : (q.size : Int) ≤ r
  · by_cases c2 : (q.depth : Int) ≤ d - 1
    · refine fits_all ?_
      have c3 : q.all = false := by
        cases e : q.all with
        | false => rfl
        | true => rw [fits_true.2 ⟨c1, c2, e⟩] at h; cases h
      simp only [Pr.all]
      rw [alls_mem_false (List.mem_of_getElem? hq) c3]; simp
    · exact fits_depth (by simp only [Pr.depth]; omega)
  · exact fits_size (by simp only [Pr.size]; omega)

def FitRel (l : List Pr) (len : Nat) (s d : Int) (w0 : World) (left ok i : Value) (wr : World) : Prop :=
  ∃ (k : Nat) (r : Int), k ≤ len ∧ i = .int .i64 k ∧ left = .int .i64 r ∧ ok = .bool true ∧ 0 ≤ r ∧ r ≤ 30 ∧ Hid (s = r + 1 + (Pr.sizes (l.take k) : Nat)) ∧ Hid ((Pr.depths (l.take k) : Int) ≤ d - 1 ∧ Pr.alls (l.take k) = true) ∧ Below w0.heap.size w0 wr

/-- What fits returns. -/
def fitV (p : Pr) (s d : Int) : Ending := if p.fitsB s d = true then .returned (.tuple #[.int .i64 (s - p.size), .bool true]) else .returned (.tuple #[.int .i64 0, .bool false])
theorem fitV_false {p : Pr} {s d : Int} (h : p.fitsB s d = false) : fitV p s d = .returned (.tuple #[.int .i64 0, .bool false]) := by
  unfold fitV; rw [h]; rfl
theorem fitV_true {p : Pr} {s d : Int} (h : p.fitsB s d = true) : fitV p s d = .returned (.tuple #[.int .i64 (s - p.size), .bool true]) := by
  unfold fitV; rw [h]; rfl

set_option maxHeartbeats 2000000 in
theorem fits_calls (p : Pr) : ∀ (v : Value) (s d : Int) (w : World), LP w p v → 0 ≤ s → s ≤ 30 → 0 ≤ d → d ≤ 6 →
    Calls Try.prog 28 #[.agg #[.int .i64 p.op, .string p.text, .int .i64 p.n, .complex .f64 p.x p.y, v], .int .i64 s, .int .i64 d] w fun e w' => e = fitV p s d ∧ Below w.heap.size w w' := by
  induction p using Pr.ind with
  | h op t n x y kids ih =>
    intro v s d w hL hs0 hs1 hd0 hd1
    obtain ⟨oa, cap, b, o, V, rfl, ht, hl, hc, hn, hcell, hrec⟩ := lies_slice hL
    simp only [Pr.kids_node, Pr.text_node, Pr.op_node, Pr.n_node, Pr.x_node, Pr.y_node] at *
    unfold maxLen at hc
    have HC := Lib.hid hcell
    have HR := Lib.hid hrec
    have HN := Lib.hid hn
    have HI := Lib.hid ih
    clear hL hcell hrec hn ih
    by_cases e1 : s = 0
    · subst e1
      rw [fitV_false (fits_size (by simp only [Pr.size]; omega))]
      go_enter Try.func28, Try.ntmps28
      go_wp2_with fail
      go_ret2
      exact ⟨rfl, (Below.refl _ _).alloc (Nat.le_refl _) _⟩
    by_cases e2 : d = 0
    · subst e2
      rw [fitV_false (fits_depth (by simp only [Pr.depth]; omega))]
      have g1 : (s == 0) = false := by rw [beq_eq_false_iff_ne]; exact e1
      go_enter Try.func28, Try.ntmps28
      go_wp2_with fail
      go_ret2
      exact ⟨rfl, (Below.refl _ _).alloc (Nat.le_refl _) _⟩
    have g1 : (s == 0) = false := by rw [beq_eq_false_iff_ne]; exact e1
    have g2 : (d == 0) = false := by rw [beq_eq_false_iff_ne]; exact e2
    have hs2 : 1 ≤ s := by omega
    have hd2 : 1 ≤ d := by omega
    have P := fun w => predPart_calls op t n x y oa kids.length cap w
    cases hp : Pr.partB op t n x y kids.length
    · rw [hp] at P
      have P := fun w => Lib.hid (P w)
      rw [fitV_false (fits_all (by simp only [Pr.all]; rw [hp]; rfl))]
      clear hp
      go_enter Try.func28, Try.ntmps28
      go_wp2_with (go_at_call 38; refine (P _).out.mono ?_; rintro e w' ⟨rfl, hb⟩)
      go_ret2
      exact ⟨rfl, below_new hb⟩
    · rw [hp] at P
      have P := fun w => Lib.hid (P w)
      have HP := Lib.hid hp
      clear hp e1 e2
      generalize hlen : kids.length = len at *
      have HLEN := Lib.hid hlen
      clear hlen
      generalize hV0 : fitV (.node op t n x y kids) s d = E0
      have HV0 := Lib.hid hV0
      clear hV0
      go_enter Try.func28, Try.ntmps28
      go_wp2_with fail
      refine (P _).out.mono ?_; rintro e w1 ⟨rfl, hb1⟩
      have g := (Has.new w #[.int .i64 op, .string t, .int .i64 n, .complex .f64 x y, .slice oa len cap] 37).below hb1 (by simp)
      have HB1 := Lib.hid hb1
      clear hb1
      have l := g.cell
      have z := g.lt
      go_wp2_with fail
      clear l z
      go_loopw [8, 9, 28] (fun left ok i wr => FitRel kids len s d w1 left ok i wr) (fun _ _ i _ => len - (intOf i).toNat)
      case atStart => exact ⟨0, s - 1, Nat.zero_le _, rfl, rfl, rfl, by omega, by omega, by simp [Hid, Pr.sizes], by simp [Hid, Pr.depths, Pr.alls]; omega, Below.refl _ _⟩
      case round =>
        obtain ⟨k, r, hk, rfl, rfl, rfl, hr0, hr1, HRr, HD, hb⟩ := hrel
        have g := g.below hb g.lt
        by_cases hlt : k < len
        · obtain ⟨q, hq⟩ : ∃ q, kids[k]? = some q := ⟨_, List.getElem?_eq_getElem (by rw [HLEN.out]; exact hlt)⟩
          obtain ⟨rfl, hB⟩ := HN.out (by omega)
          obtain ⟨oq, cq, hV⟩ := lies_val (HR.out k q hq)
          have hbw : Below w.heap.size w wr := (below_new HB1.out).trans (hb.mono (below_new HB1.out).size)
          obtain ⟨c0, c1, c2, c3, c4⟩ := pc_cells (w := wr) (fun j u hu => (hbw.cell (p := ⟨b, o + k * 5 + j, none⟩) hB).trans (HC.out k q hq j u hu))
          have L0 := (HR.out k q hq).later hbw (Nat.le_refl _)
          rw [hV] at c4 L0
          have CC := fun w' h => HI.out q (List.mem_of_getElem? hq) (.slice oq q.kids.length cq) r (d - 1) w' h hr0 hr1 (by omega) (by omega)
          have L1 := fun ob => Lib.hid (L0.atAlloc ob)
          have h3 := Pr.sizes_take hq
          have h5 := Pr.depths_take hq
          have h6 := Pr.alls_take hq
          have h7 := HRr.out
          have h8 := HD.out
          have HB := Lib.hid hb
          cases hf : q.fitsB r (d - 1)
          · have HF := Lib.hid (fits_kid (op := op) (t := t) (n := n) (x := x) (y := y) hq h7 hf)
            rw [fitV_false hf] at CC
            have CC := fun w' h => Lib.hid (CC w' h)
            clear hb hbw hq L0 h3 h5 h6 h7 h8 hV hf
            have l := g.cell
            have z := g.lt
            clear g
            go_wp2_with (go_at_call 28; refine (CC _ (L1 _).out).out.mono ?_; rintro e w' ⟨rfl, hb'⟩)
            go_ret2
            exact ⟨(HV0.out.symm.trans (fitV_false HF.out)).symm, (below_new HB1.out).trans ((HB.out.trans ((below_new hb').mono HB.out.size)).mono (below_new HB1.out).size)⟩
          · obtain ⟨f1, f2, f3⟩ := fits_true.1 hf
            have q1 : (0 : Int) ≤ r - q.size := by omega
            have q2 : r - q.size ≤ 30 := by omega
            have HRr1 := Lib.hid (show s = (r - q.size) + 1 + (Pr.sizes (kids.take (k + 1)) : Nat) by rw [h3]; omega)
            have HD1 := Lib.hid (show (Pr.depths (kids.take (k + 1)) : Int) ≤ d - 1 ∧ Pr.alls (kids.take (k + 1)) = true from ⟨by rw [h5]; omega, by rw [h6, h8.2, f3]; rfl⟩)
            rw [fitV_true hf] at CC
            have CC := fun w' h => Lib.hid (CC w' h)
            clear hb hbw hq L0 h3 h5 h6 h7 h8 hV hf f2 f3
            have l := g.cell
            have z := g.lt
            clear g
            go_wp2_with (go_at_call 28; refine (CC _ (L1 _).out).out.mono ?_; rintro e w' ⟨rfl, hb'⟩)
            go_roundw
            case rel => exact ⟨k + 1, r - q.size, by omega, by go_num, rfl, rfl, q1, q2, HRr1.out, HD1.out, HB.out.trans ((below_new hb').mono HB.out.size)⟩
            case measure => simp [intOf]; omega
        · have HB := Lib.hid hb
          clear hb
          have l := g.cell
          have z := g.lt
          clear g
          have e : k = len := by omega
          have h7 := HRr.out
          have h8 := HD.out
          rw [Pr.take_all kids (by rw [HLEN.out]; omega)] at h7 h8
          have hf : (Pr.node op t n x y kids).fitsB s d = true := fits_true.2 ⟨by simp only [Pr.size]; omega, by simp only [Pr.depth]; omega, by simp only [Pr.all]; rw [HLEN.out, HP.out, h8.2]; rfl⟩
          have HE := Lib.hid (show E0 = .returned (.tuple #[.int .i64 r, .bool true]) by rw [← HV0.out, fitV_true hf]; simp only [Pr.size]; congr 5; omega)
          clear h7 h8 e hf
          go_wp2_with fail
          go_ret2
          exact ⟨HE.out.symm, (below_new HB1.out).trans (HB.out.mono (below_new HB1.out).size)⟩

set_option maxHeartbeats 1000000 in
theorem predMay_calls (p : Pr) (v : Value) (w : World) (hL : LP w p v) :
    Calls Try.prog 17 #[.agg #[.int .i64 p.op, .string p.text, .int .i64 p.n, .complex .f64 p.x p.y, v]] w fun e w' => e = .returned (.bool p.mayB) ∧ Below w.heap.size w w' := by
  have H := fun w' h => fits_calls p v 30 6 w' h (by omega) (by omega) (by omega) (by omega)
  have L1 := fun o => Lib.hid (hL.atAlloc o)
  clear hL
  unfold Pr.mayB
  cases hf : p.fitsB 30 6
  · rw [fitV_false hf] at H
    have H := fun w' h => Lib.hid (H w' h)
    clear hf
    go_enter Try.func17, Try.ntmps17
    go_wp2_with (go_at_call 28; refine (H _ (L1 _).out).out.mono ?_; rintro e w' ⟨rfl, hb⟩)
    go_ret
    exact ⟨rfl, below_new hb⟩
  · rw [fitV_true hf] at H
    have H := fun w' h => Lib.hid (H w' h)
    clear hf
    go_enter Try.func17, Try.ntmps17
    go_wp2_with (go_at_call 28; refine (H _ (L1 _).out).out.mono ?_; rintro e w' ⟨rfl, hb⟩)
    go_ret
    exact ⟨rfl, below_new hb⟩

end Go.Proofs.Ytechmejmlelmmaa
