/- 'PredParts' returns true, whatever it is given: the walk. -/
import Derived.Test.YtadddokhbkljfaaPredTells
import Derived.Deep.DeepCutAuto
namespace Go.Proofs.Ytadddokhbkljfaa
open Go.RowKit

def nodeN (p : Pr) : Pr := .node 10 ⟨#[]⟩ 0 0 0 [p]
def nodeO (p q : Pr) : Pr := .node 9 ⟨#[]⟩ 0 0 0 [p, q]
theorem may_parts {p : Pr} (h : p.mayB = true) : p.size ≤ 30 ∧ p.depth ≤ 6 ∧ p.all = true := by
  obtain ⟨h1, h2, h3⟩ := fits_true.1 h
  exact ⟨by omega, by omega, h3⟩
theorem may_kid {p q : Pr} {k : Nat} (h : p.mayB = true) (hq : p.kids[k]? = some q) : q.mayB = true := by
  obtain ⟨h1, h2, h3⟩ := may_parts h
  obtain ⟨op, t, n, x, y, kids⟩ := p
  simp only [Pr.kids_node, Pr.size, Pr.depth, Pr.all, Bool.and_eq_true] at *
  have a := Pr.size_mem (List.mem_of_getElem? hq)
  have b := Pr.depth_mem (List.mem_of_getElem? hq)
  exact fits_true.2 ⟨by omega, by omega, Pr.all_mem (List.mem_of_getElem? hq) h3.2⟩
theorem nodeN_part : Pr.partB 10 ⟨#[]⟩ 0 0 0 1 = true := by decide +kernel
theorem nodeO_part : Pr.partB 9 ⟨#[]⟩ 0 0 0 2 = true := by decide +kernel
theorem nodeN_may {p : Pr} (h : p.all = true) : (nodeN p).mayB = (decide ((p.size : Int) < 30) && decide ((p.depth : Int) < 6)) := by
  have e1 : (nodeN p).size = 1 + (p.size + 0) := by simp only [nodeN, Pr.size, Pr.sizes]
  have e2 : (nodeN p).depth = 1 + max p.depth 0 := by simp only [nodeN, Pr.depth, Pr.depths]
  have e3 : (nodeN p).all = true := by
    simp only [nodeN, Pr.all, Pr.alls, h]
    rw [show ([p] : List Pr).length = 1 from rfl, nodeN_part]; rfl
  rw [Bool.eq_iff_iff]
  unfold Pr.mayB
  rw [fits_true, e1, e2, e3]
  simp only [Bool.and_eq_true, decide_eq_true_eq, and_true]
  omega
theorem nodeO_may {p q : Pr} (h : p.all = true) (h' : q.all = true) : (nodeO p q).mayB = (decide ((p.size : Int) + (q.size : Int) < 30) && decide (max (p.depth : Int) (q.depth : Int) < 6)) := by
  have e1 : (nodeO p q).size = 1 + (p.size + (q.size + 0)) := by simp only [nodeO, Pr.size, Pr.sizes]
  have e2 : (nodeO p q).depth = 1 + max p.depth (max q.depth 0) := by simp only [nodeO, Pr.depth, Pr.depths]
  have e3 : (nodeO p q).all = true := by
    simp only [nodeO, Pr.all, Pr.alls, h, h']
    rw [show ([p, q] : List Pr).length = 2 from rfl, nodeO_part]; rfl
  rw [Bool.eq_iff_iff]
  unfold Pr.mayB
  rw [fits_true, e1, e2, e3]
  simp only [Bool.and_eq_true, decide_eq_true_eq, and_true]
  omega
theorem nodeO_size (p q : Pr) : ((nodeO p q).size : Int) = (p.size : Int) + (q.size : Int) + 1 := by
  simp only [nodeO, Pr.size, Pr.sizes]; omega
theorem nodeO_depth (p q : Pr) : ((nodeO p q).depth : Int) = max (p.depth : Int) (q.depth : Int) + 1 := by
  simp only [nodeO, Pr.depth, Pr.depths]; omega
theorem nodeN_same (p : Pr) : Pr.same p (nodeN p) = false := by
  cases h : Pr.same p (nodeN p) with
  | false => rfl
  | true =>
    have := Pr.same_size _ _ h
    simp only [nodeN, Pr.size, Pr.sizes] at this; omega

/-- One block that holds a filter, two of them, as Kids. -/
theorem lies_one_kid {w : World} {N : Nat} {p : Pr} {v : Value} {t : TypeId} (ho : Own w N #[.int .i64 p.op, .string p.text, .int .i64 p.n, .complex .f64 p.x p.y, v] t) (hl : LP w p v) (op : Int) : LP w (.node op ⟨#[]⟩ 0 0 0 [p]) (.slice (some ⟨N, 0, none⟩) 1 1) := by
  refine .mk op ⟨#[]⟩ 0 0 0 [p] (some ⟨N, 0, none⟩) 1 N 0 (fun _ => v) (by decide) (Nat.le_refl _) (by decide) (fun _ => ⟨rfl, ho.lt⟩) (fun i q hq j u hu => ?_) (fun i q hq => ?_)
  · match i, hq with
    | 0, hq =>
      simp at hq; subst hq
      rw [ho.cell, ← hu]; simp [pc]
  · match i, hq with
    | 0, hq => simp at hq; subst hq; exact hl
theorem lies_two_kids {w : World} {N : Nat} {p q : Pr} {v v' : Value} {t : TypeId} (ho : Own w N #[.int .i64 p.op, .string p.text, .int .i64 p.n, .complex .f64 p.x p.y, v, .int .i64 q.op, .string q.text, .int .i64 q.n, .complex .f64 q.x q.y, v'] t) (hl : LP w p v) (hl' : LP w q v') (op : Int) :
    LP w (.node op ⟨#[]⟩ 0 0 0 [p, q]) (.slice (some ⟨N, 0, none⟩) 2 2) := by
  refine .mk op ⟨#[]⟩ 0 0 0 [p, q] (some ⟨N, 0, none⟩) 2 N 0 (fun i => if i = 0 then v else v') (by decide) (Nat.le_refl _) (by decide) (fun _ => ⟨rfl, ho.lt⟩) (fun i r hr j u hu => ?_) (fun i r hr => ?_)
  · match i, hr with
    | 0, hr =>
      simp at hr; subst hr
      simp only [if_true] at hu
      rw [ho.cell]
      match j, hu with
      | 0, hu | 1, hu | 2, hu | 3, hu | 4, hu => rw [← hu]; simp [pc]
    | 1, hr =>
      simp at hr; subst hr
      simp at hu
      rw [ho.cell]
      match j, hu with
      | 0, hu | 1, hu | 2, hu | 3, hu | 4, hu => rw [← hu]; simp [pc]
  · match i, hr with
    | 0, hr => simp at hr; subst hr; exact hl
    | 1, hr => simp at hr; subst hr; exact hl'

theorem mayN_calls {p : Pr} (ha : p.all = true) {c : Bool} (hc : (decide ((p.size : Int) < 30) && decide ((p.depth : Int) < 6)) = c) (v : Value) (w : World) (h : LP w (nodeN p) v) :
    Calls Try.prog 8 #[.agg #[.int .i64 10, .string ⟨#[]⟩, .int .i64 0, .complex .f64 0 0, v]] w fun e w' => e = .returned (.bool c) ∧ Below w.heap.size w w' := by
  have := predMay_calls (nodeN p) v w h
  rw [nodeN_may ha, hc] at this
  exact this
theorem mayO_calls {p q : Pr} (ha : p.all = true) (ha' : q.all = true) {c : Bool} (hc : (decide ((p.size : Int) + (q.size : Int) < 30) && decide (max (p.depth : Int) (q.depth : Int) < 6)) = c) (v : Value) (w : World) (h : LP w (nodeO p q) v) :
    Calls Try.prog 8 #[.agg #[.int .i64 9, .string ⟨#[]⟩, .int .i64 0, .complex .f64 0 0, v]] w fun e w' => e = .returned (.bool c) ∧ Below w.heap.size w w' := by
  have := predMay_calls (nodeO p q) v w h
  rw [nodeO_may ha ha', hc] at this
  exact this
theorem sizeO_calls {p q : Pr} (v : Value) (w : World) (h : LP w (nodeO p q) v) (h1 : p.size ≤ 30) (h2 : q.size ≤ 30) :
    Calls Try.prog 10 #[.agg #[.int .i64 9, .string ⟨#[]⟩, .int .i64 0, .complex .f64 0 0, v]] w fun e w' => e = .returned (.int .i64 ((p.size : Int) + (q.size : Int) + 1)) ∧ Below w.heap.size w w' := by
  have := size_calls (nodeO p q) v w h (by have := nodeO_size p q; omega)
  rw [nodeO_size] at this
  exact this
theorem depthO_calls {p q : Pr} (v : Value) (w : World) (h : LP w (nodeO p q) v) (h1 : p.size ≤ 30) (h2 : q.size ≤ 30) {d : Int} (hd : max (p.depth : Int) (q.depth : Int) = d) :
    Calls Try.prog 12 #[.agg #[.int .i64 9, .string ⟨#[]⟩, .int .i64 0, .complex .f64 0 0, v]] w fun e w' => e = .returned (.int .i64 (d + 1)) ∧ Below w.heap.size w w' := by
  have := depth_calls (nodeO p q) v w h (by have := nodeO_size p q; omega)
  rw [nodeO_depth, hd] at this
  exact this
theorem sameN_calls {p : Pr} (v v' : Value) (w : World) (h : LP w p v) (h' : LP w (nodeN p) v') :
    Calls Try.prog 14 #[.agg #[.int .i64 p.op, .string p.text, .int .i64 p.n, .complex .f64 p.x p.y, v], .agg #[.int .i64 10, .string ⟨#[]⟩, .int .i64 0, .complex .f64 0 0, v']] w fun e w' => e = .returned (.bool false) ∧ Below w.heap.size w w' := by
  have := same_any p (nodeN p) v v' w h h'
  rw [nodeN_same] at this
  exact this
theorem sameS_calls {p : Pr} (ha : p.all = true) (v v' : Value) (w : World) (h : LP w p v) (h' : LP w p v') :
    Calls Try.prog 14 #[.agg #[.int .i64 p.op, .string p.text, .int .i64 p.n, .complex .f64 p.x p.y, v], .agg #[.int .i64 p.op, .string p.text, .int .i64 p.n, .complex .f64 p.x p.y, v']] w fun e w' => e = .returned (.bool true) ∧ Below w.heap.size w w' := by
  have := same_any p p v v' w h h'
  rw [Pr.all_same p ha] at this
  exact this

theorem int_eq {k : IntKind} {a b : Int} (h : a = b) : Value.int k a = .int k b := by rw [h]

def PartRel (len : Nat) (w0 : World) (i : Value) (wr : World) : Prop := ∃ k : Nat, k ≤ len ∧ i = .int .i64 k ∧ Below w0.heap.size w0 wr

set_option maxRecDepth 100000 in
set_option maxHeartbeats 4000000 in
theorem predParts_calls (p q : Pr) (k k' : Value) (w : World) (hL : LT w p k) (hM : LT w q k') :
    Calls Try.prog 4 #[.agg #[.int .i64 p.op, .string p.text, .int .i64 p.n, .float .f64 p.x, .float .f64 p.y, k], .agg #[.int .i64 q.op, .string q.text, .int .i64 q.n, .float .f64 q.x, .float .f64 q.y, k']] w fun e w' => e = .returned (.bool true) ∧ Below w.heap.size w w' := by
  obtain ⟨op1, cp1, rfl⟩ := lies_val hL
  obtain ⟨oq1, cq1, rfl⟩ := lies_val hM
  have U := fun w => Lib.hid (up3_calls w)
  have OX := Lib.hid ((Own.new w #[.int .i64 p.op, .string p.text, .int .i64 p.n, .float .f64 p.x, .float .f64 p.y, (.slice op1 p.kids.length cp1)] 25).alloc (.cells #[.int .i64 q.op, .string q.text, .int .i64 q.n, .float .f64 q.x, .float .f64 q.y, (.slice oq1 q.kids.length cq1)] 25))
  have OY := Lib.hid (Own.newAt (w.alloc (.cells #[.int .i64 p.op, .string p.text, .int .i64 p.n, .float .f64 p.x, .float .f64 p.y, (.slice op1 p.kids.length cp1)] 25)) #[.int .i64 q.op, .string q.text, .int .i64 q.n, .float .f64 q.x, .float .f64 q.y, (.slice oq1 q.kids.length cq1)] 25 (b := w.heap.size + 1) (by simp))
  have LX := Lib.hid ((hL.atAlloc (.cells #[.int .i64 p.op, .string p.text, .int .i64 p.n, .float .f64 p.x, .float .f64 p.y, (.slice op1 p.kids.length cp1)] 25)).atAlloc (.cells #[.int .i64 q.op, .string q.text, .int .i64 q.n, .float .f64 q.x, .float .f64 q.y, (.slice oq1 q.kids.length cq1)] 25))
  have LY := Lib.hid ((hM.atAlloc (.cells #[.int .i64 p.op, .string p.text, .int .i64 p.n, .float .f64 p.x, .float .f64 p.y, (.slice op1 p.kids.length cp1)] 25)).atAlloc (.cells #[.int .i64 q.op, .string q.text, .int .i64 q.n, .float .f64 q.x, .float .f64 q.y, (.slice oq1 q.kids.length cq1)] 25))
  have BEL := Lib.hid ((((Below.refl w.heap.size w).alloc (Nat.le_refl _) (.cells #[.int .i64 p.op, .string p.text, .int .i64 p.n, .float .f64 p.x, .float .f64 p.y, (.slice op1 p.kids.length cp1)] 25)).alloc (by simp) (.cells #[.int .i64 q.op, .string q.text, .int .i64 q.n, .float .f64 q.x, .float .f64 q.y, (.slice oq1 q.kids.length cq1)] 25)))
  clear hL hM
  go_enter Try.func4, Try.ntmps4
  go_wp2_with fail
  refine (U _).out.mono ?_; rintro e w1 ⟨rfl, hb⟩
  replace OX := Lib.hid (OX.out.later hb)
  replace OY := Lib.hid (OY.out.later hb)
  replace LX := Lib.hid (LX.out.later hb (Nat.le_refl _))
  replace LY := Lib.hid (LY.out.later hb (Nat.le_refl _))
  replace BEL := Lib.hid (BEL.out.trans (hb.mono BEL.out.size))
  clear hb
  clear U
  have LOX := fun dd os o => OX.out.has.regrown dd os o
  have LOY := fun dd os o => OY.out.has.regrown dd os o
  have m1 := fun dd os => Lib.hid (Calls.regrown_of (small_calls p (.slice op1 p.kids.length cp1) (Sort.grow (redrawn w1 dd) os) (LX.out.later (below_regrown _ _ _) (Nat.le_refl _))))
  have m2 := fun dd os => Lib.hid (Calls.regrown_of (small_calls q (.slice oq1 q.kids.length cq1) (Sort.grow (redrawn w1 dd) os) (LY.out.later (below_regrown _ _ _) (Nat.le_refl _))))
  by_cases h1 : p.size ≤ 60
  · by_cases h2 : q.size ≤ 60
    · simp only [if_pos h1] at m1
      simp only [if_pos h2] at m2
      go_wp2_with fail
      refine wp_region_quiet_below (by kernel_rfl) (by kernel_rfl) ?_
      repeat (first | go_big_quiet_step ((first | (with_reducible exact (m1 _ _).out) | (with_reducible exact (m2 _ _).out))) | quiet_step (first | (with_reducible exact (m1 _ _).out) | (with_reducible exact (m2 _ _).out)))
      refine wpQuiet_nil ?_
      intro w2 hw'
      have hb := regrown_below hw'
      clear hw' m1 m2
      clear LOX LOY
      replace OX := Lib.hid (OX.out.later hb)
      replace OY := Lib.hid (OY.out.later hb)
      replace LX := Lib.hid (LX.out.later hb (Nat.le_refl _))
      replace LY := Lib.hid (LY.out.later hb (Nat.le_refl _))
      replace BEL := Lib.hid (BEL.out.trans (hb.mono BEL.out.size))
      clear hb
      have lOX := OX.out.cell
      have zOX := OX.out.lt
      have lOY := OY.out.cell
      have zOY := OY.out.lt
      go_wp2_with fail
      refine (conv_calls p (.slice op1 p.kids.length cp1) _ LX.out h1).mono ?_
      rintro e w3 ⟨va, rfl, hla, hb⟩
      obtain ⟨oa, ca, rfl⟩ := lies_val hla
      have LA := Lib.hid (hla.mono (S' := fun b => b < w3.heap.size) (fun _ _ _ => rfl) (fun _ h => h.2))
      clear hla
      clear lOX zOX lOY zOY
      replace OY := Lib.hid (OY.out.later hb)
      replace LY := Lib.hid (LY.out.later hb (Nat.le_refl _))
      replace BEL := Lib.hid (BEL.out.trans (hb.mono BEL.out.size))
      clear hb
      clear OX LX
      have lOY := OY.out.cell
      have zOY := OY.out.lt
      go_wp2_with fail
      clear lOY zOY
      replace OY := Lib.hid (OY.out.alloc (.cells #[.int .i64 p.op, .string p.text, .int .i64 p.n, .complex .f64 p.x p.y, .slice oa p.kids.length ca] 31))
      replace LY := Lib.hid (LY.out.atAlloc (.cells #[.int .i64 p.op, .string p.text, .int .i64 p.n, .complex .f64 p.x p.y, .slice oa p.kids.length ca] 31))
      replace LA := Lib.hid (LA.out.atAlloc (.cells #[.int .i64 p.op, .string p.text, .int .i64 p.n, .complex .f64 p.x p.y, .slice oa p.kids.length ca] 31))
      have OA := Lib.hid (Own.new w3 #[.int .i64 p.op, .string p.text, .int .i64 p.n, .complex .f64 p.x p.y, .slice oa p.kids.length ca] 31)
      replace BEL := Lib.hid (BEL.out.alloc BEL.out.size (.cells #[.int .i64 p.op, .string p.text, .int .i64 p.n, .complex .f64 p.x p.y, .slice oa p.kids.length ca] 31))
      generalize w3.heap.size = A at *
      generalize w3.alloc (.cells #[.int .i64 p.op, .string p.text, .int .i64 p.n, .complex .f64 p.x p.y, .slice oa p.kids.length ca] 31) = w3' at *
      have lOY := OY.out.cell
      have zOY := OY.out.lt
      refine (conv_calls q (.slice oq1 q.kids.length cq1) _ LY.out h2).mono ?_
      rintro e w4 ⟨vb, rfl, hlb, hb⟩
      obtain ⟨ob, cb, rfl⟩ := lies_val hlb
      have LB := Lib.hid (hlb.mono (S' := fun b => b < w4.heap.size) (fun _ _ _ => rfl) (fun _ h => h.2))
      clear hlb
      clear lOY zOY
      replace OA := Lib.hid (OA.out.later hb)
      replace LA := Lib.hid (LA.out.later hb (Nat.le_refl _))
      replace BEL := Lib.hid (BEL.out.trans (hb.mono BEL.out.size))
      clear hb
      clear OY LY
      have lOA := OA.out.cell
      have zOA := OA.out.lt
      go_wp2_with fail
      clear lOA zOA
      replace OA := Lib.hid (OA.out.alloc (.cells #[.int .i64 q.op, .string q.text, .int .i64 q.n, .complex .f64 q.x q.y, .slice ob q.kids.length cb] 31))
      replace LA := Lib.hid (LA.out.atAlloc (.cells #[.int .i64 q.op, .string q.text, .int .i64 q.n, .complex .f64 q.x q.y, .slice ob q.kids.length cb] 31))
      replace LB := Lib.hid (LB.out.atAlloc (.cells #[.int .i64 q.op, .string q.text, .int .i64 q.n, .complex .f64 q.x q.y, .slice ob q.kids.length cb] 31))
      have OB := Lib.hid (Own.new w4 #[.int .i64 q.op, .string q.text, .int .i64 q.n, .complex .f64 q.x q.y, .slice ob q.kids.length cb] 31)
      replace BEL := Lib.hid (BEL.out.alloc BEL.out.size (.cells #[.int .i64 q.op, .string q.text, .int .i64 q.n, .complex .f64 q.x q.y, .slice ob q.kids.length cb] 31))
      generalize w4.heap.size = B at *
      generalize w4.alloc (.cells #[.int .i64 q.op, .string q.text, .int .i64 q.n, .complex .f64 q.x q.y, .slice ob q.kids.length cb] 31) = w4' at *
      have lOA := OA.out.cell
      have zOA := OA.out.lt
      have lOB := OB.out.cell
      have zOB := OB.out.lt
      generalize w4' = w5 at *
      have M1 := Lib.hid (predMay_calls p (.slice oa p.kids.length ca) w5 LA.out)
      cases hma : p.mayB
      · rw [hma] at M1
        refine M1.out.mono ?_; rintro e w6 ⟨rfl, hb⟩
        have BEL := Lib.hid (BEL.out.trans (hb.mono BEL.out.size))
        go_wp2_with fail
        go_ret
        exact ⟨rfl, BEL.out⟩
      rw [hma] at M1
      refine M1.out.mono ?_; rintro e w6 ⟨rfl, hb⟩
      clear lOA zOA lOB zOB
      clear M1
      replace OA := Lib.hid (OA.out.later hb)
      replace OB := Lib.hid (OB.out.later hb)
      replace LA := Lib.hid (LA.out.later hb (Nat.le_refl _))
      replace LB := Lib.hid (LB.out.later hb (Nat.le_refl _))
      replace BEL := Lib.hid (BEL.out.trans (hb.mono BEL.out.size))
      clear hb
      have lOA := OA.out.cell
      have zOA := OA.out.lt
      have lOB := OB.out.cell
      have zOB := OB.out.lt
      go_wp2_with fail
      have M1 := Lib.hid (predMay_calls q (.slice ob q.kids.length cb) w6 LB.out)
      cases hmb : q.mayB
      · rw [hmb] at M1
        refine M1.out.mono ?_; rintro e w7 ⟨rfl, hb⟩
        have BEL := Lib.hid (BEL.out.trans (hb.mono BEL.out.size))
        go_wp2_with fail
        go_ret
        exact ⟨rfl, BEL.out⟩
      rw [hmb] at M1
      refine M1.out.mono ?_; rintro e w7 ⟨rfl, hb⟩
      clear lOA zOA lOB zOB
      clear M1
      replace OA := Lib.hid (OA.out.later hb)
      replace OB := Lib.hid (OB.out.later hb)
      replace LA := Lib.hid (LA.out.later hb (Nat.le_refl _))
      replace LB := Lib.hid (LB.out.later hb (Nat.le_refl _))
      replace BEL := Lib.hid (BEL.out.trans (hb.mono BEL.out.size))
      clear hb
      have HMA := Lib.hid hma
      have HMB := Lib.hid hmb
      clear hma hmb
      obtain ⟨oa_, ca_, b, o, V, ev, _, hl, hc, hn, hcell, hrec⟩ := lies_slice LA.out
      cases ev
      unfold maxLen at hc
      have HC := Lib.hid hcell
      have HR := Lib.hid hrec
      have HN := Lib.hid hn
      clear hcell hrec hn
      generalize hlen : p.kids.length = len at *
      have HLEN := Lib.hid hlen
      clear hlen
      go_wp2_with fail
      go_loopw [8] (fun i wr => PartRel len w7 i wr) (fun i _ => len - (intOf i).toNat)
      case atStart => exact ⟨0, Nat.zero_le _, rfl, Below.refl _ _⟩
      case round =>
        obtain ⟨k, hk, rfl, hb⟩ := hrel
        have OAr := Lib.hid (OA.out.later hb)
        have LAr := OAr.out.cell
        have ZAr := OAr.out.lt
        by_cases hlt : k < len
        · obtain ⟨r, hr⟩ : ∃ r, p.kids[k]? = some r := ⟨_, List.getElem?_eq_getElem (by rw [HLEN.out]; exact hlt)⟩
          obtain ⟨rfl, hB⟩ := HN.out (by omega)
          obtain ⟨c0, c1, c2, c3, c4⟩ := pc_cells (w := wr) (fun j u hu => (hb.cell (p := ⟨b, o + k * 5 + j, none⟩) hB).trans (HC.out k r hr j u hu))
          have M1 := predMay_calls r (V k) wr ((HR.out k r hr).later hb (Nat.le_refl _))
          rw [may_kid HMA.out hr] at M1
          have M1 := Lib.hid M1
          have HB := Lib.hid hb
          clear hb hr
          go_wp2_with (go_at_call 8; refine M1.out.mono ?_; rintro e w' ⟨rfl, hb'⟩)
          go_roundw
          case rel => exact ⟨k + 1, by omega, by go_num, HB.out.trans (hb'.mono HB.out.size)⟩
          case measure => simp [intOf]; omega
        · clear OAr
          have e : k = len := by omega
          subst e
          clear LAr ZAr HC HR HN
          replace OA := Lib.hid (OA.out.later hb)
          replace OB := Lib.hid (OB.out.later hb)
          replace LA := Lib.hid (LA.out.later hb (Nat.le_refl _))
          replace LB := Lib.hid (LB.out.later hb (Nat.le_refl _))
          replace BEL := Lib.hid (BEL.out.trans (hb.mono BEL.out.size))
          clear hb
          have lOA := OA.out.cell
          have zOA := OA.out.lt
          have lOB := OB.out.cell
          have zOB := OB.out.lt
          go_wp2_with fail
          clear lOA zOA lOB zOB
          have LN := Lib.hid ((((lies_one_kid (Own.new wr #[.int .i64 p.op, .string p.text, .int .i64 p.n, .complex .f64 p.x p.y, .slice oa k ca] 31) (LA.out.atAlloc _) 10).atAlloc (.cells #[.int .i64 10, .string ⟨#[]⟩, .int .i64 0, .complex .f64 0 0, .slice (some ⟨wr.heap.size, 0, none⟩) 1 1] 31)).atAlloc (.cells #[.int .i64 p.op, .string p.text, .int .i64 p.n, .complex .f64 p.x p.y, .slice oa k ca, .int .i64 q.op, .string q.text, .int .i64 q.n, .complex .f64 q.x q.y, .slice ob q.kids.length cb] 31)).atAlloc (.cells #[.int .i64 9, .string ⟨#[]⟩, .int .i64 0, .complex .f64 0 0, .slice (some ⟨wr.heap.size + 1 + 1, 0, none⟩) 2 2] 31))
          have LO := Lib.hid ((lies_two_kids (Own.newAt ((wr.alloc (.cells #[.int .i64 p.op, .string p.text, .int .i64 p.n, .complex .f64 p.x p.y, .slice oa k ca] 31)).alloc (.cells #[.int .i64 10, .string ⟨#[]⟩, .int .i64 0, .complex .f64 0 0, .slice (some ⟨wr.heap.size, 0, none⟩) 1 1] 31)) #[.int .i64 p.op, .string p.text, .int .i64 p.n, .complex .f64 p.x p.y, .slice oa k ca, .int .i64 q.op, .string q.text, .int .i64 q.n, .complex .f64 q.x q.y, .slice ob q.kids.length cb] 31 (b := wr.heap.size + 1 + 1) (by simp)) (((LA.out.atAlloc _).atAlloc _).atAlloc _) (((LB.out.atAlloc _).atAlloc _).atAlloc _) 9).atAlloc (.cells #[.int .i64 9, .string ⟨#[]⟩, .int .i64 0, .complex .f64 0 0, .slice (some ⟨wr.heap.size + 1 + 1, 0, none⟩) 2 2] 31))
          have ON := Lib.hid (((Own.newAt (wr.alloc (.cells #[.int .i64 p.op, .string p.text, .int .i64 p.n, .complex .f64 p.x p.y, .slice oa k ca] 31)) #[.int .i64 10, .string ⟨#[]⟩, .int .i64 0, .complex .f64 0 0, .slice (some ⟨wr.heap.size, 0, none⟩) 1 1] 31 (b := wr.heap.size + 1) (by simp)).alloc (.cells #[.int .i64 p.op, .string p.text, .int .i64 p.n, .complex .f64 p.x p.y, .slice oa k ca, .int .i64 q.op, .string q.text, .int .i64 q.n, .complex .f64 q.x q.y, .slice ob q.kids.length cb] 31)).alloc (.cells #[.int .i64 9, .string ⟨#[]⟩, .int .i64 0, .complex .f64 0 0, .slice (some ⟨wr.heap.size + 1 + 1, 0, none⟩) 2 2] 31))
          have OO := Lib.hid (Own.newAt (((wr.alloc (.cells #[.int .i64 p.op, .string p.text, .int .i64 p.n, .complex .f64 p.x p.y, .slice oa k ca] 31)).alloc (.cells #[.int .i64 10, .string ⟨#[]⟩, .int .i64 0, .complex .f64 0 0, .slice (some ⟨wr.heap.size, 0, none⟩) 1 1] 31)).alloc (.cells #[.int .i64 p.op, .string p.text, .int .i64 p.n, .complex .f64 p.x p.y, .slice oa k ca, .int .i64 q.op, .string q.text, .int .i64 q.n, .complex .f64 q.x q.y, .slice ob q.kids.length cb] 31)) #[.int .i64 9, .string ⟨#[]⟩, .int .i64 0, .complex .f64 0 0, .slice (some ⟨wr.heap.size + 1 + 1, 0, none⟩) 2 2] 31 (b := wr.heap.size + 1 + 1 + 1) (by simp))
          replace OA := Lib.hid ((((OA.out.alloc (.cells #[.int .i64 p.op, .string p.text, .int .i64 p.n, .complex .f64 p.x p.y, .slice oa k ca] 31)).alloc (.cells #[.int .i64 10, .string ⟨#[]⟩, .int .i64 0, .complex .f64 0 0, .slice (some ⟨wr.heap.size, 0, none⟩) 1 1] 31)).alloc (.cells #[.int .i64 p.op, .string p.text, .int .i64 p.n, .complex .f64 p.x p.y, .slice oa k ca, .int .i64 q.op, .string q.text, .int .i64 q.n, .complex .f64 q.x q.y, .slice ob q.kids.length cb] 31)).alloc (.cells #[.int .i64 9, .string ⟨#[]⟩, .int .i64 0, .complex .f64 0 0, .slice (some ⟨wr.heap.size + 1 + 1, 0, none⟩) 2 2] 31))
          replace OB := Lib.hid ((((OB.out.alloc (.cells #[.int .i64 p.op, .string p.text, .int .i64 p.n, .complex .f64 p.x p.y, .slice oa k ca] 31)).alloc (.cells #[.int .i64 10, .string ⟨#[]⟩, .int .i64 0, .complex .f64 0 0, .slice (some ⟨wr.heap.size, 0, none⟩) 1 1] 31)).alloc (.cells #[.int .i64 p.op, .string p.text, .int .i64 p.n, .complex .f64 p.x p.y, .slice oa k ca, .int .i64 q.op, .string q.text, .int .i64 q.n, .complex .f64 q.x q.y, .slice ob q.kids.length cb] 31)).alloc (.cells #[.int .i64 9, .string ⟨#[]⟩, .int .i64 0, .complex .f64 0 0, .slice (some ⟨wr.heap.size + 1 + 1, 0, none⟩) 2 2] 31))
          replace LA := Lib.hid ((((LA.out.atAlloc (.cells #[.int .i64 p.op, .string p.text, .int .i64 p.n, .complex .f64 p.x p.y, .slice oa k ca] 31)).atAlloc (.cells #[.int .i64 10, .string ⟨#[]⟩, .int .i64 0, .complex .f64 0 0, .slice (some ⟨wr.heap.size, 0, none⟩) 1 1] 31)).atAlloc (.cells #[.int .i64 p.op, .string p.text, .int .i64 p.n, .complex .f64 p.x p.y, .slice oa k ca, .int .i64 q.op, .string q.text, .int .i64 q.n, .complex .f64 q.x q.y, .slice ob q.kids.length cb] 31)).atAlloc (.cells #[.int .i64 9, .string ⟨#[]⟩, .int .i64 0, .complex .f64 0 0, .slice (some ⟨wr.heap.size + 1 + 1, 0, none⟩) 2 2] 31))
          replace LB := Lib.hid ((((LB.out.atAlloc (.cells #[.int .i64 p.op, .string p.text, .int .i64 p.n, .complex .f64 p.x p.y, .slice oa k ca] 31)).atAlloc (.cells #[.int .i64 10, .string ⟨#[]⟩, .int .i64 0, .complex .f64 0 0, .slice (some ⟨wr.heap.size, 0, none⟩) 1 1] 31)).atAlloc (.cells #[.int .i64 p.op, .string p.text, .int .i64 p.n, .complex .f64 p.x p.y, .slice oa k ca, .int .i64 q.op, .string q.text, .int .i64 q.n, .complex .f64 q.x q.y, .slice ob q.kids.length cb] 31)).atAlloc (.cells #[.int .i64 9, .string ⟨#[]⟩, .int .i64 0, .complex .f64 0 0, .slice (some ⟨wr.heap.size + 1 + 1, 0, none⟩) 2 2] 31))
          replace BEL := Lib.hid ((((BEL.out.alloc BEL.out.size (.cells #[.int .i64 p.op, .string p.text, .int .i64 p.n, .complex .f64 p.x p.y, .slice oa k ca] 31)).alloc (by have := BEL.out.size; simp; omega) (.cells #[.int .i64 10, .string ⟨#[]⟩, .int .i64 0, .complex .f64 0 0, .slice (some ⟨wr.heap.size, 0, none⟩) 1 1] 31)).alloc (by have := BEL.out.size; simp; omega) (.cells #[.int .i64 p.op, .string p.text, .int .i64 p.n, .complex .f64 p.x p.y, .slice oa k ca, .int .i64 q.op, .string q.text, .int .i64 q.n, .complex .f64 q.x q.y, .slice ob q.kids.length cb] 31)).alloc (by have := BEL.out.size; simp; omega) (.cells #[.int .i64 9, .string ⟨#[]⟩, .int .i64 0, .complex .f64 0 0, .slice (some ⟨wr.heap.size + 1 + 1, 0, none⟩) 2 2] 31))
          generalize ((((wr.alloc (.cells #[.int .i64 p.op, .string p.text, .int .i64 p.n, .complex .f64 p.x p.y, .slice oa k ca] 31)).alloc (.cells #[.int .i64 10, .string ⟨#[]⟩, .int .i64 0, .complex .f64 0 0, .slice (some ⟨wr.heap.size, 0, none⟩) 1 1] 31)).alloc (.cells #[.int .i64 p.op, .string p.text, .int .i64 p.n, .complex .f64 p.x p.y, .slice oa k ca, .int .i64 q.op, .string q.text, .int .i64 q.n, .complex .f64 q.x q.y, .slice ob q.kids.length cb] 31)).alloc (.cells #[.int .i64 9, .string ⟨#[]⟩, .int .i64 0, .complex .f64 0 0, .slice (some ⟨wr.heap.size + 1 + 1, 0, none⟩) 2 2] 31)) = w8 at *
          generalize wr.heap.size = N at *
          obtain ⟨sa1, da1, aa⟩ := may_parts HMA.out
          obtain ⟨sb1, db1, ab⟩ := may_parts HMB.out
          have sa0 := Pr.size_pos p
          have sb0 := Pr.size_pos q
          have da0 := Pr.depth_pos p
          have db0 := Pr.depth_pos q
          generalize hdm : max (p.depth : Int) (q.depth : Int) = dm
          have CD1 := fun w h => Lib.hid (depth_calls p (.slice oa k ca) w h (by omega))
          have CD2 := fun w h => Lib.hid (depth_calls q (.slice ob q.kids.length cb) w h (by omega))
          have CS1 := fun w h => Lib.hid (size_calls p (.slice oa k ca) w h (by omega))
          have CS2 := fun w h => Lib.hid (size_calls q (.slice ob q.kids.length cb) w h (by omega))
          have CMN := fun c hc w h => Lib.hid (mayN_calls aa (c := c) hc (.slice (some ⟨N, 0, none⟩) 1 1) w h)
          have CMO := fun c hc w h => Lib.hid (mayO_calls aa ab (c := c) hc (.slice (some ⟨N + 1 + 1, 0, none⟩) 2 2) w h)
          have CSO := fun w h => Lib.hid (sizeO_calls (p := p) (q := q) (.slice (some ⟨N + 1 + 1, 0, none⟩) 2 2) w h sa1 sb1)
          have CDO := fun w h => Lib.hid (depthO_calls (p := p) (q := q) (.slice (some ⟨N + 1 + 1, 0, none⟩) 2 2) w h sa1 sb1 hdm)
          have CSN := fun w h h' => Lib.hid (sameN_calls (p := p) (.slice oa k ca) (.slice (some ⟨N, 0, none⟩) 1 1) w h h')
          have CSS := fun w h h' => Lib.hid (sameS_calls aa (.slice oa k ca) (.slice oa k ca) w h h')
          rw [hdm] at CMO
          obtain ⟨dm0, dm1⟩ : 0 ≤ dm ∧ dm ≤ 30 := by omega
          have HDM := Lib.hid hdm
          clear hdm aa ab HMA HMB
          generalize p.size = sp at *
          generalize q.size = sq at *
          generalize p.depth = dp at *
          generalize q.depth = dq at *
          go_cut [11] (fun s11 wx => s11 = .int .i64 dm ∧ Hid (Below w.heap.size w wx ∧ Own wx A #[.int .i64 p.op, .string p.text, .int .i64 p.n, .complex .f64 p.x p.y, .slice oa k ca] 31 ∧ Own wx B #[.int .i64 q.op, .string q.text, .int .i64 q.n, .complex .f64 q.x q.y, .slice ob q.kids.length cb] 31 ∧ Own wx (N + 1) #[.int .i64 10, .string ⟨#[]⟩, .int .i64 0, .complex .f64 0 0, .slice (some ⟨N, 0, none⟩) 1 1] 31 ∧ Own wx (N + 1 + 1 + 1) #[.int .i64 9, .string ⟨#[]⟩, .int .i64 0, .complex .f64 0 0, .slice (some ⟨N + 1 + 1, 0, none⟩) 2 2] 31 ∧ LP wx p (.slice oa k ca) ∧ LP wx q (.slice ob q.kids.length cb) ∧ LP wx (nodeN p) (.slice (some ⟨N, 0, none⟩) 1 1) ∧ LP wx (nodeO p q) (.slice (some ⟨N + 1 + 1, 0, none⟩) 2 2)))
          case first =>
            have LOA := fun dd os o => OA.out.has.regrown dd os o
            have LOB := fun dd os o => OB.out.has.regrown dd os o
            have LON := fun dd os o => ON.out.has.regrown dd os o
            have LOO := fun dd os o => OO.out.has.regrown dd os o
            have m1 := fun dd os => Lib.hid (Calls.regrown_of ((CD1 (Sort.grow (redrawn w8 dd) os) (LA.out.later (below_regrown _ _ _) (Nat.le_refl _))).out))
            have m2 := fun dd os => Lib.hid (Calls.regrown_of ((CD2 (Sort.grow (redrawn w8 dd) os) (LB.out.later (below_regrown _ _ _) (Nat.le_refl _))).out))
            clear CD1 CD2 CS1 CS2 CMN CMO CSO CDO CSN CSS
            have hways : (dp < dq) ∨ (dq ≤ dp) := by omega
            rcases hways with hd | hd
            all_goals
              refine wp_region_quiet_below (by kernel_rfl) (by kernel_rfl) ?_
              repeat (first | go_big_quiet_step ((first | (with_reducible exact (m1 _ _).out) | (with_reducible exact (m2 _ _).out))) | quiet_step (first | (with_reducible exact (m1 _ _).out) | (with_reducible exact (m2 _ _).out)))
              refine wpQuiet_nil ?_
              intro w9 hw'
              have hb := regrown_below hw'
              clear hw' m1 m2
              clear LOA LOB LON LOO
              replace OA := Lib.hid (OA.out.later hb)
              replace OB := Lib.hid (OB.out.later hb)
              replace ON := Lib.hid (ON.out.later hb)
              replace OO := Lib.hid (OO.out.later hb)
              replace LA := Lib.hid (LA.out.later hb (Nat.le_refl _))
              replace LB := Lib.hid (LB.out.later hb (Nat.le_refl _))
              replace LN := Lib.hid (LN.out.later hb (Nat.le_refl _))
              replace LO := Lib.hid (LO.out.later hb (Nat.le_refl _))
              replace BEL := Lib.hid (BEL.out.trans (hb.mono BEL.out.size))
              clear hb
              go_wp2_with fail
              go_meet
              exact ⟨int_eq (by have := HDM.out; omega), BEL.out, OA.out, OB.out, ON.out, OO.out, LA.out, LB.out, LN.out, LO.out⟩
          case rest =>
            obtain ⟨rfl, hh⟩ := hcut
            clear BEL OA OB ON OO LA LB LN LO
            obtain ⟨f0, f1, f2, f3, f4, f5, f6, f7, f8⟩ := Hid.out hh
            have BEL := Lib.hid f0
            have OA := Lib.hid f1
            have OB := Lib.hid f2
            have ON := Lib.hid f3
            have OO := Lib.hid f4
            have LA := Lib.hid f5
            have LB := Lib.hid f6
            have LN := Lib.hid f7
            have LO := Lib.hid f8
            clear hh f0 f1 f2 f3 f4 f5 f6 f7 f8
            go_wp2_with fail
            have LOA := fun dd os o => OA.out.has.regrown dd os o
            have LOB := fun dd os o => OB.out.has.regrown dd os o
            have LON := fun dd os o => ON.out.has.regrown dd os o
            have LOO := fun dd os o => OO.out.has.regrown dd os o
            have m1 := fun dd os => Lib.hid (Calls.regrown_of ((CS1 (Sort.grow (redrawn wc dd) os) (LA.out.later (below_regrown _ _ _) (Nat.le_refl _))).out))
            have m2 := fun dd os => Lib.hid (Calls.regrown_of ((CS2 (Sort.grow (redrawn wc dd) os) (LB.out.later (below_regrown _ _ _) (Nat.le_refl _))).out))
            refine wp_region_quiet_below (by kernel_rfl) (by kernel_rfl) ?_
            repeat (first | go_big_quiet_step ((first | (with_reducible exact (m1 _ _).out) | (with_reducible exact (m2 _ _).out))) | quiet_step (first | (with_reducible exact (m1 _ _).out) | (with_reducible exact (m2 _ _).out)))
            refine wpQuiet_nil ?_
            intro w10 hw'
            have hb := regrown_below hw'
            clear hw' m1 m2
            clear LOA LOB LON LOO
            replace OA := Lib.hid (OA.out.later hb)
            replace OB := Lib.hid (OB.out.later hb)
            replace ON := Lib.hid (ON.out.later hb)
            replace OO := Lib.hid (OO.out.later hb)
            replace LA := Lib.hid (LA.out.later hb (Nat.le_refl _))
            replace LB := Lib.hid (LB.out.later hb (Nat.le_refl _))
            replace LN := Lib.hid (LN.out.later hb (Nat.le_refl _))
            replace LO := Lib.hid (LO.out.later hb (Nat.le_refl _))
            replace BEL := Lib.hid (BEL.out.trans (hb.mono BEL.out.size))
            clear hb
            go_wp2_with fail
            go_cut [86] (fun s86 wx => s86 = .bool false ∧ Hid (Below w.heap.size w wx ∧ Own wx A #[.int .i64 p.op, .string p.text, .int .i64 p.n, .complex .f64 p.x p.y, .slice oa k ca] 31 ∧ Own wx B #[.int .i64 q.op, .string q.text, .int .i64 q.n, .complex .f64 q.x q.y, .slice ob q.kids.length cb] 31 ∧ Own wx (N + 1) #[.int .i64 10, .string ⟨#[]⟩, .int .i64 0, .complex .f64 0 0, .slice (some ⟨N, 0, none⟩) 1 1] 31 ∧ Own wx (N + 1 + 1 + 1) #[.int .i64 9, .string ⟨#[]⟩, .int .i64 0, .complex .f64 0 0, .slice (some ⟨N + 1 + 1, 0, none⟩) 2 2] 31 ∧ LP wx p (.slice oa k ca) ∧ LP wx q (.slice ob q.kids.length cb) ∧ LP wx (nodeN p) (.slice (some ⟨N, 0, none⟩) 1 1) ∧ LP wx (nodeO p q) (.slice (some ⟨N + 1 + 1, 0, none⟩) 2 2)))
            case first =>
              have LOA := fun dd os o => OA.out.has.regrown dd os o
              have LOB := fun dd os o => OB.out.has.regrown dd os o
              have LON := fun dd os o => ON.out.has.regrown dd os o
              have LOO := fun dd os o => OO.out.has.regrown dd os o
              have m1 := fun dd os => Lib.hid (Calls.regrown_of ((CS1 (Sort.grow (redrawn w10 dd) os) (LA.out.later (below_regrown _ _ _) (Nat.le_refl _))).out))
              have m2 := fun dd os => Lib.hid (Calls.regrown_of ((CD1 (Sort.grow (redrawn w10 dd) os) (LA.out.later (below_regrown _ _ _) (Nat.le_refl _))).out))
              have m3 := fun dd os => Lib.hid (Calls.regrown_of ((CMN _ rfl (Sort.grow (redrawn w10 dd) os) (LN.out.later (below_regrown _ _ _) (Nat.le_refl _))).out))
              have m4 := fun dd os => Lib.hid (Calls.regrown_of ((CMO _ rfl (Sort.grow (redrawn w10 dd) os) (LO.out.later (below_regrown _ _ _) (Nat.le_refl _))).out))
              have hways : ((decide ((sp : Int) < 30) = false ∧ decide ((sp : Int) + (sq : Int) < 30) = false) ∨ (decide ((sp : Int) < 30) = true ∧ decide ((dp : Int) < 6) = false ∧ decide ((sp : Int) + (sq : Int) < 30) = false) ∨
                  (decide ((sp : Int) < 30) = true ∧ decide ((dp : Int) < 6) = false ∧ decide ((sp : Int) + (sq : Int) < 30) = true ∧ decide (dm < 6) = false) ∨ (decide ((sp : Int) < 30) = true ∧ decide ((dp : Int) < 6) = true ∧ decide ((sp : Int) + (sq : Int) < 30) = false) ∨
                  (decide ((sp : Int) < 30) = true ∧ decide ((dp : Int) < 6) = true ∧ decide ((sp : Int) + (sq : Int) < 30) = true ∧ decide (dm < 6) = false) ∨ (decide ((sp : Int) < 30) = true ∧ decide ((dp : Int) < 6) = true ∧ decide ((sp : Int) + (sq : Int) < 30) = true ∧ decide (dm < 6) = true)) := by
                have := HDM.out
                simp only [decide_eq_true_eq, decide_eq_false_iff_not]
                omega
              clear CD1 CD2 CS1 CS2 CMN CMO CSO CDO CSN CSS
              rcases hways with ⟨e1, e3⟩ | ⟨e1, e2, e3⟩ | ⟨e1, e2, e3, e4⟩ | ⟨e1, e2, e3⟩ | ⟨e1, e2, e3, e4⟩ | ⟨e1, e2, e3, e4⟩
              all_goals
                simp only [*, Bool.and_true, Bool.and_false, Bool.false_and, Bool.true_and] at m3 m4
                refine wp_region_quiet_below (by kernel_rfl) (by kernel_rfl) ?_
                repeat (first | go_big_quiet_step ((first | (with_reducible exact (m1 _ _).out) | (with_reducible exact (m2 _ _).out) | (with_reducible exact (m3 _ _).out) | (with_reducible exact (m4 _ _).out))) | quiet_step (first | (with_reducible exact (m1 _ _).out) | (with_reducible exact (m2 _ _).out) | (with_reducible exact (m3 _ _).out) | (with_reducible exact (m4 _ _).out)))
                refine wpQuiet_nil ?_
                intro w11 hw'
                have hb := regrown_below hw'
                clear hw' m1 m2 m3 m4
                clear LOA LOB LON LOO
                replace OA := Lib.hid (OA.out.later hb)
                replace OB := Lib.hid (OB.out.later hb)
                replace ON := Lib.hid (ON.out.later hb)
                replace OO := Lib.hid (OO.out.later hb)
                replace LA := Lib.hid (LA.out.later hb (Nat.le_refl _))
                replace LB := Lib.hid (LB.out.later hb (Nat.le_refl _))
                replace LN := Lib.hid (LN.out.later hb (Nat.le_refl _))
                replace LO := Lib.hid (LO.out.later hb (Nat.le_refl _))
                replace BEL := Lib.hid (BEL.out.trans (hb.mono BEL.out.size))
                clear hb
                go_wp2_with fail
                go_meet
                exact ⟨rfl, BEL.out, OA.out, OB.out, ON.out, OO.out, LA.out, LB.out, LN.out, LO.out⟩
            case rest =>
              clear CD1 CD2 CS1 CS2 CMN CMO
              obtain ⟨rfl, hh⟩ := hcut
              clear BEL OA OB ON OO LA LB LN LO
              obtain ⟨f0, f1, f2, f3, f4, f5, f6, f7, f8⟩ := Hid.out hh
              have BEL := Lib.hid f0
              have OA := Lib.hid f1
              have OB := Lib.hid f2
              have ON := Lib.hid f3
              have OO := Lib.hid f4
              have LA := Lib.hid f5
              have LB := Lib.hid f6
              have LN := Lib.hid f7
              have LO := Lib.hid f8
              clear hh f0 f1 f2 f3 f4 f5 f6 f7 f8
              have lOA := OA.out.cell
              have zOA := OA.out.lt
              have lOB := OB.out.cell
              have zOB := OB.out.lt
              have lON := ON.out.cell
              have zON := ON.out.lt
              have lOO := OO.out.cell
              have zOO := OO.out.lt
              go_wp2_with fail
              refine (CSS _ LA.out LA.out).out.mono ?_; rintro e w12 ⟨rfl, hb⟩
              clear lOA zOA lOB zOB lON zON lOO zOO
              replace OA := Lib.hid (OA.out.later hb)
              replace OB := Lib.hid (OB.out.later hb)
              replace ON := Lib.hid (ON.out.later hb)
              replace OO := Lib.hid (OO.out.later hb)
              replace LA := Lib.hid (LA.out.later hb (Nat.le_refl _))
              replace LB := Lib.hid (LB.out.later hb (Nat.le_refl _))
              replace LN := Lib.hid (LN.out.later hb (Nat.le_refl _))
              replace LO := Lib.hid (LO.out.later hb (Nat.le_refl _))
              replace BEL := Lib.hid (BEL.out.trans (hb.mono BEL.out.size))
              clear hb
              have lOA := OA.out.cell
              have zOA := OA.out.lt
              have lOB := OB.out.cell
              have zOB := OB.out.lt
              have lON := ON.out.cell
              have zON := ON.out.lt
              have lOO := OO.out.cell
              have zOO := OO.out.lt
              go_wp2_with fail
              refine (CSN _ LA.out LN.out).out.mono ?_; rintro e w13 ⟨rfl, hb⟩
              clear lOA zOA lOB zOB lON zON lOO zOO
              replace OA := Lib.hid (OA.out.later hb)
              replace OB := Lib.hid (OB.out.later hb)
              replace ON := Lib.hid (ON.out.later hb)
              replace OO := Lib.hid (OO.out.later hb)
              replace LA := Lib.hid (LA.out.later hb (Nat.le_refl _))
              replace LB := Lib.hid (LB.out.later hb (Nat.le_refl _))
              replace LN := Lib.hid (LN.out.later hb (Nat.le_refl _))
              replace LO := Lib.hid (LO.out.later hb (Nat.le_refl _))
              replace BEL := Lib.hid (BEL.out.trans (hb.mono BEL.out.size))
              clear hb
              have lOA := OA.out.cell
              have zOA := OA.out.lt
              have lOB := OB.out.cell
              have zOB := OB.out.lt
              have lON := ON.out.cell
              have zON := ON.out.lt
              have lOO := OO.out.cell
              have zOO := OO.out.lt
              go_wp2_with fail
              refine (CSO _ LO.out).out.mono ?_; rintro e w14 ⟨rfl, hb⟩
              clear lOA zOA lOB zOB lON zON lOO zOO
              replace OA := Lib.hid (OA.out.later hb)
              replace OB := Lib.hid (OB.out.later hb)
              replace ON := Lib.hid (ON.out.later hb)
              replace OO := Lib.hid (OO.out.later hb)
              replace LA := Lib.hid (LA.out.later hb (Nat.le_refl _))
              replace LB := Lib.hid (LB.out.later hb (Nat.le_refl _))
              replace LN := Lib.hid (LN.out.later hb (Nat.le_refl _))
              replace LO := Lib.hid (LO.out.later hb (Nat.le_refl _))
              replace BEL := Lib.hid (BEL.out.trans (hb.mono BEL.out.size))
              clear hb
              have lOA := OA.out.cell
              have zOA := OA.out.lt
              have lOB := OB.out.cell
              have zOB := OB.out.lt
              have lON := ON.out.cell
              have zON := ON.out.lt
              have lOO := OO.out.cell
              have zOO := OO.out.lt
              go_wp2_with fail
              refine (CDO _ LO.out).out.mono ?_; rintro e w15 ⟨rfl, hb⟩
              clear lOA zOA lOB zOB lON zON lOO zOO
              replace OA := Lib.hid (OA.out.later hb)
              replace OB := Lib.hid (OB.out.later hb)
              replace ON := Lib.hid (ON.out.later hb)
              replace OO := Lib.hid (OO.out.later hb)
              replace LA := Lib.hid (LA.out.later hb (Nat.le_refl _))
              replace LB := Lib.hid (LB.out.later hb (Nat.le_refl _))
              replace LN := Lib.hid (LN.out.later hb (Nat.le_refl _))
              replace LO := Lib.hid (LO.out.later hb (Nat.le_refl _))
              replace BEL := Lib.hid (BEL.out.trans (hb.mono BEL.out.size))
              clear hb
              have lOA := OA.out.cell
              have zOA := OA.out.lt
              have lOB := OB.out.cell
              have zOB := OB.out.lt
              have lON := ON.out.cell
              have zON := ON.out.lt
              have lOO := OO.out.cell
              have zOO := OO.out.lt
              go_wp2_with fail
              go_ret
              exact ⟨rfl, BEL.out⟩
    · simp only [if_pos h1] at m1
      simp only [if_neg h2] at m2
      go_wp2_with fail
      refine wp_region_quiet_below (by kernel_rfl) (by kernel_rfl) ?_
      repeat (first | go_big_quiet_step ((first | (with_reducible exact (m1 _ _).out) | (with_reducible exact (m2 _ _).out))) | quiet_step (first | (with_reducible exact (m1 _ _).out) | (with_reducible exact (m2 _ _).out)))
      refine wpQuiet_nil ?_
      intro w2 hw'
      have hb := regrown_below hw'
      clear hw' m1 m2
      clear LOX LOY
      replace OX := Lib.hid (OX.out.later hb)
      replace OY := Lib.hid (OY.out.later hb)
      replace LX := Lib.hid (LX.out.later hb (Nat.le_refl _))
      replace LY := Lib.hid (LY.out.later hb (Nat.le_refl _))
      replace BEL := Lib.hid (BEL.out.trans (hb.mono BEL.out.size))
      clear hb
      go_wp2_with fail
      go_ret
      exact ⟨rfl, BEL.out⟩
  · simp only [if_neg h1] at m1
    by_cases h2 : q.size ≤ 60
    · simp only [if_pos h2] at m2
      go_wp2_with fail
      refine wp_region_quiet_below (by kernel_rfl) (by kernel_rfl) ?_
      repeat (first | go_big_quiet_step ((first | (with_reducible exact (m1 _ _).out) | (with_reducible exact (m2 _ _).out))) | quiet_step (first | (with_reducible exact (m1 _ _).out) | (with_reducible exact (m2 _ _).out)))
      refine wpQuiet_nil ?_
      intro w2 hw'
      have hb := regrown_below hw'
      clear hw' m1 m2
      clear LOX LOY
      replace OX := Lib.hid (OX.out.later hb)
      replace OY := Lib.hid (OY.out.later hb)
      replace LX := Lib.hid (LX.out.later hb (Nat.le_refl _))
      replace LY := Lib.hid (LY.out.later hb (Nat.le_refl _))
      replace BEL := Lib.hid (BEL.out.trans (hb.mono BEL.out.size))
      clear hb
      go_wp2_with fail
      go_ret
      exact ⟨rfl, BEL.out⟩
    · simp only [if_neg h2] at m2
      go_wp2_with fail
      refine wp_region_quiet_below (by kernel_rfl) (by kernel_rfl) ?_
      repeat (first | go_big_quiet_step ((first | (with_reducible exact (m1 _ _).out) | (with_reducible exact (m2 _ _).out))) | quiet_step (first | (with_reducible exact (m1 _ _).out) | (with_reducible exact (m2 _ _).out)))
      refine wpQuiet_nil ?_
      intro w2 hw'
      have hb := regrown_below hw'
      clear hw' m1 m2
      clear LOX LOY
      replace OX := Lib.hid (OX.out.later hb)
      replace OY := Lib.hid (OY.out.later hb)
      replace LX := Lib.hid (LX.out.later hb (Nat.le_refl _))
      replace LY := Lib.hid (LY.out.later hb (Nat.le_refl _))
      replace BEL := Lib.hid (BEL.out.trans (hb.mono BEL.out.size))
      clear hb
      go_wp2_with fail
      go_ret
      exact ⟨rfl, BEL.out⟩

end Go.Proofs.Ytadddokhbkljfaa
