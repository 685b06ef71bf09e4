/- Whether two filters are the same: the walks; and the document's May. -/
import Derived.Test.YtechmejmlelmmaaRefFits
namespace Go.Proofs.Ytechmejmlelmmaa
set_option linter.unusedVariables false
set_option linter.unusedSimpArgs false
set_option maxRecDepth 100000
open Go.RowKit

set_option maxHeartbeats 1000000 in
theorem refMay3_calls (p : Pr) (v : Value) (w : World) (hL : LP w p v) (hsz : p.size ≤ 1000) :
    Calls Try.prog 15 #[.agg #[.int .i64 p.op, .string p.text, .int .i64 p.n, .complex .f64 p.x p.y, v]] w fun e w' => e = .returned (.bool p.mayB) ∧ Below w.heap.size w w' := by
  obtain ⟨oq, cq, rfl⟩ := lies_val hL
  have S := fun w' h => Lib.hid (refSize_calls p (.slice oq p.kids.length cq) w' h hsz)
  have D := fun w' h => Lib.hid (refDepth_calls p (.slice oq p.kids.length cq) w' h hsz)
  have A := fun w' h => Lib.hid (refFits_calls p (.slice oq p.kids.length cq) w' h hsz)
  have L0 := hL.atAlloc (.cells #[.int .i64 p.op, .string p.text, .int .i64 p.n, .complex .f64 p.x p.y, .slice oq p.kids.length cq] 37)
  have G0 := Lib.hid (Own.new w #[.int .i64 p.op, .string p.text, .int .i64 p.n, .complex .f64 p.x p.y, .slice oq p.kids.length cq] 37)
  have L := Lib.hid L0
  clear hL L0
  have e : p.mayB = (decide ((p.size : Int) ≤ 30) && (decide ((p.depth : Int) ≤ 6) && p.all)) := rfl
  rw [e]
  clear e
  by_cases h1 : (p.size : Int) ≤ 30
  · by_cases h2 : (p.depth : Int) ≤ 6
    · rw [decide_eq_true h1, decide_eq_true h2, Bool.true_and, Bool.true_and]
      generalize p.all = pa at *
      go_enter Try.func15, Try.ntmps15
      go_wp2_with fail
      refine (S _ L.out).out.mono ?_; rintro e w1 ⟨rfl, hb1⟩
      have G1 := Lib.hid (G0.out.later hb1)
      have L1 := Lib.hid (L.out.later hb1 (Nat.le_refl _))
      have B1 := Lib.hid (below_new hb1)
      clear hb1
      have l1 := G1.out.cell
      go_wp2_with fail
      refine (D _ L1.out).out.mono ?_; rintro e w2 ⟨rfl, hb2⟩
      have G2 := Lib.hid (G1.out.later hb2)
      have L2 := Lib.hid (L1.out.later hb2 (Nat.le_refl _))
      have B2 := Lib.hid (B1.out.trans (hb2.mono B1.out.size))
      clear hb2 l1
      have l2 := G2.out.cell
      go_wp2_with fail
      refine (A _ L2.out).out.mono ?_; rintro e w3 ⟨rfl, hb3⟩
      go_wp2_with fail
      go_ret
      exact ⟨rfl, B2.out.trans (hb3.mono B2.out.size)⟩
    · rw [decide_eq_true h1, decide_eq_false h2, Bool.true_and, Bool.false_and]
      go_enter Try.func15, Try.ntmps15
      go_wp2_with fail
      refine (S _ L.out).out.mono ?_; rintro e w1 ⟨rfl, hb1⟩
      have G1 := Lib.hid (G0.out.later hb1)
      have L1 := Lib.hid (L.out.later hb1 (Nat.le_refl _))
      have B1 := Lib.hid (below_new hb1)
      clear hb1
      have l1 := G1.out.cell
      go_wp2_with fail
      refine (D _ L1.out).out.mono ?_; rintro e w2 ⟨rfl, hb2⟩
      go_wp2_with fail
      go_ret
      exact ⟨rfl, B1.out.trans (hb2.mono B1.out.size)⟩
  · rw [decide_eq_false h1, Bool.false_and]
    go_enter Try.func15, Try.ntmps15
    go_wp2_with fail
    refine (S _ L.out).out.mono ?_; rintro e w1 ⟨rfl, hb1⟩
    go_wp2_with fail
    go_ret
    exact ⟨rfl, below_new hb1⟩

/-- A list that lies there, whose it may be. -/
abbrev LK (w : World) (l : List Pr) (v : Value) : Prop := LP w (.node 0 ⟨#[]⟩ 0 0 0 l) v
theorem lies_kids {w : World} {p : Pr} {v : Value} (h : LP w p v) : LK w p.kids v := by
  cases h with
  | mk op t n x y kids oa cap b o V ht hl hc hn hcell hrec => exact .mk _ _ _ _ _ kids oa cap b o V (by decide) hl hc hn hcell hrec

def SameFn (k : Pr) : Prop := ∀ (q : Pr) (v v' : Value) (w : World), LP w k v → LP w q v' →
    Calls Try.prog 29 #[.agg #[.int .i64 k.op, .string k.text, .int .i64 k.n, .complex .f64 k.x k.y, v], .agg #[.int .i64 q.op, .string q.text, .int .i64 q.n, .complex .f64 q.x q.y, v']] w fun e w' => e = .returned (.bool (Pr.same k q)) ∧ Below w.heap.size w w'

def EqRel (l m : List Pr) (len : Nat) (w0 : World) (i : Value) (wr : World) : Prop :=
  ∃ k : Nat, k ≤ len ∧ i = .int .i64 k ∧ Hid (Pr.sames (l.take k) (m.take k) = true) ∧ Below w0.heap.size w0 wr

set_option maxHeartbeats 2000000 in
theorem equal_calls (l m : List Pr) (H : ∀ k ∈ l, SameFn k) (oa ob : Option Addr) (cap cap' : Nat) (w : World) (hL : LK w l (.slice oa l.length cap)) (hM : LK w m (.slice ob m.length cap')) :
    Calls Try.prog 39 #[.slice oa l.length cap, .slice ob m.length cap', .func (Fn.func 29) #[] #[]] w fun e w' => e = .returned (.bool (Pr.sames l m)) ∧ Below w.heap.size w w' := by
  obtain ⟨_, _, b, o, V, e1, _, hl, hc, hn, hcell, hrec⟩ := lies_slice hL
  obtain ⟨_, _, b', o', V', e2, _, hl', hc', hn', hcell', hrec'⟩ := lies_slice hM
  cases e1
  cases e2
  simp only [Pr.kids_node] at *
  unfold maxLen at hc hc'
  have HC := Lib.hid hcell
  have HR := Lib.hid hrec
  have HN := Lib.hid hn
  have HC' := Lib.hid hcell'
  have HR' := Lib.hid hrec'
  have HN' := Lib.hid hn'
  have HH := Lib.hid H
  clear hL hcell hrec hn hM hcell' hrec' hn' H
  generalize hla : l.length = la at *
  generalize hlb : m.length = lb at *
  have HLA := Lib.hid hla
  have HLB := Lib.hid hlb
  clear hla hlb
  by_cases hne : la = lb
  · subst hne
    go_enter Try.func39, Try.ntmps39
    go_wp2_with fail
    go_loopw [17] (fun i wr => EqRel l m la w i wr) (fun i _ => la - (intOf i).toNat)
    case atStart => exact ⟨0, Nat.zero_le _, rfl, by simp [Hid, Pr.sames], Below.refl _ _⟩
    case round =>
      obtain ⟨k, hk, rfl, HS, hb⟩ := hrel
      by_cases hlt : k < la
      · obtain ⟨p, hp⟩ : ∃ p, l[k]? = some p := ⟨_, List.getElem?_eq_getElem (by rw [HLA.out]; exact hlt)⟩
        obtain ⟨q, hq⟩ : ∃ q, m[k]? = some q := ⟨_, List.getElem?_eq_getElem (by rw [HLB.out]; exact hlt)⟩
        obtain ⟨rfl, hB⟩ := HN.out (by omega)
        obtain ⟨rfl, hB'⟩ := HN'.out (by omega)
        obtain ⟨oq, cq, hV⟩ := lies_val (HR.out k p hp)
        obtain ⟨oq', cq', hV'⟩ := lies_val (HR'.out k q hq)
        obtain ⟨c0, c1, c2, c3, c4⟩ := pc_cells (w := wr) (fun j u hu => (hb.cell (p := ⟨b, o + k * 5 + j, none⟩) hB).trans (HC.out k p hp j u hu))
        obtain ⟨d0, d1, d2, d3, d4⟩ := pc_cells (w := wr) (fun j u hu => (hb.cell (p := ⟨b', o' + k * 5 + j, none⟩) hB').trans (HC'.out k q hq j u hu))
        have z1 := Nat.lt_of_lt_of_le hB hb.size
        have z2 := Nat.lt_of_lt_of_le hB' hb.size
        have L0 := (HR.out k p hp).later hb (Nat.le_refl _)
        have M0 := (HR'.out k q hq).later hb (Nat.le_refl _)
        rw [hV] at c4 L0
        rw [hV'] at d4 M0
        have CC := fun w' h h' => HH.out p (List.mem_of_getElem? hp) q (.slice oq p.kids.length cq) (.slice oq' q.kids.length cq') w' h h'
        have L1 := fun a b => Lib.hid ((L0.atAlloc a).atAlloc b)
        have M1 := fun a b => Lib.hid ((M0.atAlloc a).atAlloc b)
        have HB := Lib.hid hb
        have HS0 := HS.out
        cases hs : Pr.same p q
        · have HF := Lib.hid (Pr.sames_at hp hq hs)
          rw [hs] at CC
          have CC := fun w' h h' => Lib.hid (CC w' h h')
          clear hb hV hV' L0 M0 HS0 hs hp hq
          go_wp2_with (go_at_call 29; refine (CC _ (L1 _ _).out (M1 _ _).out).out.mono ?_; rintro e w' ⟨rfl, hb'⟩)
          go_ret
          exact ⟨ret_bool HF.out.symm, HB.out.trans ((below_new (below_new hb')).mono HB.out.size)⟩
        · have HF := Lib.hid (Pr.sames_take hp hq HS0 hs)
          rw [hs] at CC
          have CC := fun w' h h' => Lib.hid (CC w' h h')
          clear hb hV hV' L0 M0 HS0 hs hp hq
          go_wp2_with (go_at_call 29; refine (CC _ (L1 _ _).out (M1 _ _).out).out.mono ?_; rintro e w' ⟨rfl, hb'⟩)
          go_roundw
          case rel => exact ⟨k + 1, by omega, by go_num, HF.out, HB.out.trans ((below_new (below_new hb')).mono HB.out.size)⟩
          case measure => simp [intOf]; omega
      · have HB := Lib.hid hb
        clear hb
        have e : k = la := by omega
        have h7 := HS.out
        rw [Pr.take_all l (by rw [HLA.out]; omega), Pr.take_all m (by rw [HLB.out]; omega)] at h7
        have H7 := Lib.hid h7
        clear h7 e
        go_wp2_with fail
        go_ret
        exact ⟨ret_bool H7.out.symm, HB.out⟩
  · have hz : Pr.sames l m = false := Pr.sames_not_len (by rw [HLA.out, HLB.out]; exact hne)
    rw [hz]
    clear hz
    go_enter Try.func39, Try.ntmps39
    go_wp2_with fail
    go_ret
    exact ⟨rfl, Below.refl _ _⟩

set_option maxHeartbeats 2000000 in
theorem same_any (p : Pr) : SameFn p := by
  induction p using Pr.ind with
  | h op t n x y kids ih =>
    intro q v v' w hL hL'
    obtain ⟨op', t', n', x', y', kids'⟩ := q
    obtain ⟨oa, cap, rfl⟩ := lies_val hL
    obtain ⟨oa', cap', rfl⟩ := lies_val hL'
    simp only [Pr.kids_node, Pr.text_node, Pr.op_node, Pr.n_node, Pr.x_node, Pr.y_node] at *
    have L1 := fun a b => Lib.hid (((lies_kids hL).atAlloc a).atAlloc b)
    have M1 := fun a b => Lib.hid (((lies_kids hL').atAlloc a).atAlloc b)
    simp only [Pr.kids_node] at L1 M1
    have C := fun w' h h' => Lib.hid (equal_calls kids kids' ih oa oa' cap cap' w' h h')
    have f1 : ∀ x y, (FloatKind.f64.format.order x y == some .eq) = feq x y := fun _ _ => rfl
    have f2 : Pr.same (.node op t n x y kids) (.node op' t' n' x' y' kids') = (decide (op = op') && (decide (t.toList = t'.toList) && (decide (n = n') && ((feq x x' && feq y y') && Pr.sames kids kids')))) := by simp [Pr.same]
    have F2 := Lib.hid f2
    clear f2 hL hL' ih
    go_enter Try.func29, Try.ntmps29
    go_wp2_with (refine (C _ (L1 _ _).out (M1 _ _).out).out.mono ?_; rintro e w' ⟨rfl, hb'⟩)
    all_goals
      go_ret
      refine ⟨ret_bool (by rw [F2.out]; simp_all), ?_⟩
      first
        | exact below_new (below_new hb')
        | exact ((Below.refl _ _).alloc (Nat.le_refl _) _).alloc (by simp) _

end Go.Proofs.Ytechmejmlelmmaa
