/- Joined: Open, RefHasK, OpenV, ErrH. -/
import Derived.Test.YtjkcooakddlppaaGreatJ13
import Derived.Test.YtjkcooakddlppaaGreatJ06
import Derived.Test.YtjkcooakddlppaaGreatJ05
import Derived.Test.YtjkcooakddlppaaGreatJ09
import Derived.Test.YtjkcooakddlppaaGreatJ04
import Derived.Test.YtjkcooakddlppaaGreatJ01
/- What the arguments of the laws read as: rows opened to their cells. -/
namespace Go.Proofs.YtjkcooakddlppaaGreat
set_option linter.unusedVariables false
set_option linter.unusedSimpArgs false
set_option maxRecDepth 100000
open Go.ChangeShapes Go.WideShapes Go.ChangeAt Go.RowKit Go.Deep
section
variable {H : Type} {enc : TypeId × Value → H} {w : World} {base : Nat} {spare : Nat → Bool} {held : Bool} {fuel : Nat} {cs : List Value} {x : DataW H × List MemPlace}
def RowCells (cs : List Value) : Prop := ∃ (id : ByteArray) (r c st : Int) (kd : ByteArray) (n : Int) (x y : Nat) (d : Bool),
  cs = [.string id, .int .i64 r, .int .i64 c, .int .i64 st, .string kd, .int .i64 n, .float .f64 x, .float .f64 y, .bool d] ∧ id.size ≤ maxLen ∧ kd.size ≤ maxLen ∧
  (Lit.int .i64 r).wf = true ∧ (Lit.int .i64 c).wf = true ∧ (Lit.int .i64 st).wf = true ∧ (Lit.int .i64 n).wf = true
set_option maxRecDepth 100000 in
theorem trod_row (h : DataW.trod enc Tryz.prog w base spare held fuel 35 cs = some x) : RowCells cs := by
  obtain ⟨xs, n, hn, hx, hl, hxl, hf⟩ := DataW.trod_struct Tryz.underlying35 h
  have hl' : cs.length = 9 := hl.trans (by kernel_rfl)
  have F := fun i f hi => field_at (P := Tryz.prog) (by kernel_rfl) (by rw [hl']; rfl) hxl hf i f hi
  match cs, hl' with
  | [c0, c1, c2, c3, c4, c5, c6, c7, c8], _ =>
    obtain ⟨_, _, e0, t0⟩ := F 0 _ rfl
    obtain ⟨_, _, e1, t1⟩ := F 1 _ rfl
    obtain ⟨_, _, e2, t2⟩ := F 2 _ rfl
    obtain ⟨_, _, e3, t3⟩ := F 3 _ rfl
    obtain ⟨_, _, e4, t4⟩ := F 4 _ rfl
    obtain ⟨_, _, e5, t5⟩ := F 5 _ rfl
    obtain ⟨_, _, e6, t6⟩ := F 6 _ rfl
    obtain ⟨_, _, e7, t7⟩ := F 7 _ rfl
    obtain ⟨_, _, e8, t8⟩ := F 8 _ rfl
    obtain ⟨s0, k0, _, z0⟩ := DataW.trod_string Tryz.underlying9 t0
    obtain ⟨s1, k1, _, z1⟩ := DataW.trod_int Tryz.underlying3 t1
    obtain ⟨s2, k2, _, z2⟩ := DataW.trod_int Tryz.underlying3 t2
    obtain ⟨s3, k3, _, z3⟩ := DataW.trod_int Tryz.underlying3 t3
    obtain ⟨s4, k4, _, z4⟩ := DataW.trod_string Tryz.underlying9 t4
    obtain ⟨s5, k5, _, z5⟩ := DataW.trod_int Tryz.underlying3 t5
    obtain ⟨s6, k6⟩ := trod_float Tryz.underlying22 t6
    obtain ⟨s7, k7⟩ := trod_float Tryz.underlying22 t7
    obtain ⟨s8, k8, _⟩ := DataW.trod_bool Tryz.underlying4 t8
    simp only [List.cons.injEq, and_true] at k0 k1 k2 k3 k4 k5 k6 k7 k8
    simp at e0 e1 e2 e3 e4 e5 e6 e7 e8
    subst e0 e1 e2 e3 e4 e5 e6 e7 e8 k0 k1 k2 k3 k4 k5 k6 k7 k8
    exact ⟨s0, s1, s2, s3, s4, s5, s6, s7, s8, rfl, z0, z4, z1, z2, z3, z5⟩
set_option maxRecDepth 100000 in
theorem open_row {r : Reach} {b0 : Nat} {v : Value} {d : DataW H} {p : List MemPlace} (hv : Value.okWide Tryz.prog w r b0 35 v) (h : DataW.Trod enc Tryz.prog w base spare held 35 v d p) :
    ∃ (id : ByteArray) (r c st : Int) (kd : ByteArray) (n : Int) (x y : Nat) (d : Bool), v = .agg #[.string id, .int .i64 r, .int .i64 c, .int .i64 st, .string kd, .int .i64 n, .float .f64 x, .float .f64 y, .bool d] ∧ id.size ≤ maxLen ∧ kd.size ≤ maxLen := by
  obtain ⟨l, rfl, hsz⟩ := okWide_struct Tryz.underlying35 hv
  obtain ⟨f, hf⟩ := h
  obtain ⟨id, r, c, st, kd, n, x, y, d, e, h1, h2, _⟩ := trod_row hf
  refine ⟨id, r, c, st, kd, n, x, y, d, ?_, h1, h2⟩
  obtain ⟨l⟩ := l
  have : l = _ := e
  rw [this]
end
end Go.Proofs.YtjkcooakddlppaaGreat
/- What is known: the document's Has, walked. -/
namespace Go.Proofs.YtjkcooakddlppaaGreat
set_option linter.unusedVariables false
set_option linter.unusedSimpArgs false
set_option maxRecDepth 100000
open Go.RowKit
def HkRel (l : List Fr) (id : ByteArray) (r c : Int) (len : Nat) (X Y : Array Value) (w : World) (iv : Value) (wr : World) : Prop :=
  ∃ k : Nat, k ≤ len ∧ iv = .int .i64 k ∧ Hid (∀ j f, j < k → l[j]? = some f → hasFr id r c f = false) ∧ Hid (AlS w X Y wr)
set_option maxRecDepth 100000 in
set_option maxHeartbeats 8000000 in
theorem refHasK_calls (K : Kn) (id : ByteArray) (r c : Int) (v : Value) (w : World) (hR : FrW w K.l v) :
    Calls Tryz.prog 47 #[knV K.star v, .string id, .agg #[.int .i64 r, .int .i64 c]] w fun e w' => e = .returned (.bool (hasK K id r c)) ∧ Below w.heap.size w w' := by
  obtain ⟨A, l⟩ := K
  simp only at hR ⊢
  obtain ⟨U, oa, cap, b0, o, rfl, hr⟩ := hR
  have HR := Lib.hid hr
  have hcap := hr.len
  have hmax := hr.max
  unfold maxLen at hmax
  clear hr
  have HE := Lib.hid (show hasK ⟨A, l⟩ id r c = (hasV A r c || l.any (hasFr id r c)) from rfl)
  generalize hasK ⟨A, l⟩ id r c = res at *
  generalize hn : l.length = len at *
  have HN := Lib.hid hn
  clear hn
  have I0 : AlS w (knA A (.slice oa len cap)) #[.int .i64 r, .int .i64 c] ((w.alloc (.cells (knA A (.slice oa len cap)) 31)).alloc (.cells #[.int .i64 r, .int .i64 c] 37)) :=
    ⟨(Has.new w _ _).alloc _, (Own.newAt _ _ _ (by simp)).has, ((Below.refl _ _).alloc (Nat.le_refl _) _).alloc (by simp) _⟩
  have HI0 := Lib.hid I0
  clear I0
  have C := Lib.hid (hasVec_calls A r c ((w.alloc (.cells (knA A (.slice oa len cap)) 31)).alloc (.cells #[.int .i64 r, .int .i64 c] 37)))
  cases hq : hasV A r c
  case true =>
    rw [hq] at C
    have E := Lib.hid (show res = true by rw [HE.out, hq]; rfl)
    clear hq
    go_enter Tryz.func47, Tryz.ntmps47
    go_wp2_with (go_at_call 100; refine C.out.mono ?_; rintro e w2 ⟨rfl, hb2⟩)
    go_ret
    exact ⟨ret_bool E.out.symm, (HI0.out.later hb2).bel⟩
  rw [hq] at C
  have HE2 := Lib.hid (show res = l.any (hasFr id r c) by rw [HE.out, hq]; rfl)
  clear hq HE
  go_enter Tryz.func47, Tryz.ntmps47
  go_wp2_with (go_at_call 100; refine C.out.mono ?_; rintro e w2 ⟨rfl, hb2⟩; have HI2 := Lib.hid (HI0.out.later hb2))
  clear hb2 HI0 C
  go_loopw [7] (fun iv wr => HkRel l id r c len (knA A (.slice oa len cap)) #[.int .i64 r, .int .i64 c] w iv wr) (fun iv _ => len - (intOf iv).toNat)
  case atStart => exact ⟨0, Nat.zero_le _, rfl, fun j f hj => absurd hj (by omega), HI2⟩
  case round =>
    clear HI2
    obtain ⟨k, hk, rfl, HA, HS⟩ := hrel
    have l1 := HS.out.o1.cell
    have z1 := HS.out.o1.lt
    by_cases hlt : k < len
    · obtain ⟨f, hf⟩ : ∃ f, l[k]? = some f := ⟨_, List.getElem?_eq_getElem (by rw [HN.out]; exact hlt)⟩
      obtain ⟨rfl, hb0⟩ := HR.out.at0 (by rw [HN.out]; omega)
      obtain ⟨c0, c1, c2, c3, c4, c5, c6, c7, c8⟩ := fc_cells (w := wr) (fun j z hz => (HS.out.bel.cell (p := ⟨b0, o + k * 9 + j, none⟩) hb0).trans (HR.out.cell k f hf j z hz))
      have htx := (HR.out.ids k f hf).later HS.out.bel (Nat.le_refl _)
      obtain ⟨ou, cu, hu⟩ := htx.val
      rw [hu] at c0 htx
      have m1 := fun dd os => Lib.hid (Calls.regrown_of ((among_calls f.ids id _ (Sort.grow (redrawn wr dd) os) (htx.later (below_regrown _ _ _) (Nat.le_refl _))).mono (fun e w' h => (⟨h.1, by rw [← h.2]; exact Below.refl _ _⟩ : e = .returned (.bool (amongB f.ids id)) ∧ Below _ _ w'))))
      have m2 := fun dd os => Lib.hid (Calls.regrown_of (hasVec_calls f.v r c (Sort.grow (redrawn wr dd) os)))
      have HF := Lib.hid hf
      clear hf hu htx
      have LA := fun dd os q => HS.out.o1.regrown dd os q
      have LB := fun dd os q => HS.out.o2.regrown dd os q
      have r0 := fun dd os => cell_regrown c0 dd os
      have r1 := fun dd os => cell_regrown c1 dd os
      have r2 := fun dd os => cell_regrown c2 dd os
      have r3 := fun dd os => cell_regrown c3 dd os
      have r4 := fun dd os => cell_regrown c4 dd os
      have r5 := fun dd os => cell_regrown c5 dd os
      have r6 := fun dd os => cell_regrown c6 dd os
      have r7 := fun dd os => cell_regrown c7 dd os
      have r8 := fun dd os => cell_regrown c8 dd os
      clear c0 c1 c2 c3 c4 c5 c6 c7 c8
      have k0 : (0 : Int) ≤ (k : Int) := by omega
      have k1 : (k : Int) < (len : Int) := by omega
      have HFR := Lib.hid (show hasFr id r c f = (amongB f.ids id && hasV f.v r c) from rfl)
      have HNX : Hid (hasFr id r c f = false → ∀ j g, j < k + 1 → l[j]? = some g → hasFr id r c g = false) := fun h j g hj hg => by
        by_cases e : j = k
        · subst e; rw [HF.out] at hg; cases hg; exact h
        · exact HA.out j g (by omega) hg
      generalize amongB f.ids id = am at *
      generalize hasV f.v r c = hv at *
      cases am
      · have HN2 := Lib.hid (HNX.out (by rw [HFR.out]; rfl))
        go_wp2_with fail
        refine wp_region_quiet_below (by kernel_rfl) (by kernel_rfl) ?_
        repeat (first | go_big_quiet_step ((first | with_reducible exact (m1 _ _).out | with_reducible exact (m2 _ _).out)) | quiet_step (first | with_reducible exact (m1 _ _).out | with_reducible exact (m2 _ _).out))
        refine wpQuiet_nil ?_
        intro w7 hw'
        have hb' := Lib.hid (regrown_below hw')
        clear hw' m1 m2 LA LB r0 r1 r2 r3 r4 r5 r6 r7 r8
        have HS7 := Lib.hid (HS.out.later hb'.out)
        clear l1
        go_wp2_with fail
        go_roundw
        case rel => exact ⟨k + 1, by omega, by go_num, HN2, HS7⟩
        case measure => simp [intOf]; omega
      · cases hv
        · have HN2 := Lib.hid (HNX.out (by rw [HFR.out]; rfl))
          go_wp2_with fail
          refine wp_region_quiet_below (by kernel_rfl) (by kernel_rfl) ?_
          repeat (first | go_big_quiet_step ((first | with_reducible exact (m1 _ _).out | with_reducible exact (m2 _ _).out)) | quiet_step (first | with_reducible exact (m1 _ _).out | with_reducible exact (m2 _ _).out))
          refine wpQuiet_nil ?_
          intro w7 hw'
          have hb' := Lib.hid (regrown_below hw')
          clear hw' m1 m2 LA LB r0 r1 r2 r3 r4 r5 r6 r7 r8
          have HS7 := Lib.hid (HS.out.later hb'.out)
          clear l1
          go_wp2_with fail
          go_roundw
          case rel => exact ⟨k + 1, by omega, by go_num, HN2, HS7⟩
          case measure => simp [intOf]; omega
        · have E := Lib.hid (show res = true by
            rw [HE2.out, List.any_eq_true]
            exact ⟨f, List.mem_of_getElem? HF.out, by rw [HFR.out]; rfl⟩)
          go_wp2_with fail
          refine wp_region_quiet_below (by kernel_rfl) (by kernel_rfl) ?_
          repeat (first | go_big_quiet_step ((first | with_reducible exact (m1 _ _).out | with_reducible exact (m2 _ _).out)) | quiet_step (first | with_reducible exact (m1 _ _).out | with_reducible exact (m2 _ _).out))
          refine wpQuiet_nil ?_
          intro w7 hw'
          have hb' := Lib.hid (regrown_below hw')
          clear hw' m1 m2 LA LB r0 r1 r2 r3 r4 r5 r6 r7 r8
          clear l1
          go_wp2_with fail
          go_ret
          exact ⟨ret_bool E.out.symm, HS.out.bel.trans (hb'.out.mono HS.out.bel.size)⟩
    · have e : len = k := by omega
      subst e
      have E := Lib.hid (show res = false by
        rw [HE2.out, List.any_eq_false]
        intro f hf
        obtain ⟨j, hj, e⟩ := List.mem_iff_getElem.1 hf
        have := HA.out j f (by have := HN.out; omega) (by rw [List.getElem?_eq_getElem hj, e])
        simp [this])
      go_wp2_with fail
      go_ret
      exact ⟨ret_bool E.out.symm, HS.out.bel⟩
end Go.Proofs.YtjkcooakddlppaaGreat
/- What the arguments of the laws read as: counts of replicas, versions. -/
namespace Go.Proofs.YtjkcooakddlppaaGreat
set_option linter.unusedVariables false
set_option linter.unusedSimpArgs false
set_option maxRecDepth 100000
open Go.ChangeShapes Go.WideShapes Go.ChangeAt Go.RowKit Go.Deep
section
variable {H : Type} {enc : TypeId × Value → H} {w : World} {base : Nat} {spare : Nat → Bool} {held : Bool} {fuel : Nat} {cs : List Value} {x : DataW H × List MemPlace}
set_option maxRecDepth 100000 in
theorem trod_vec (h : DataW.trod enc Tryz.prog w base spare held fuel 28 cs = some x) : ∃ A : Nat → Int, cs = (arr8 A).toList := by
  obtain ⟨xs, n, _, ex, hl, hlen, hel⟩ := DataW.trod_array Tryz.underlying28 h
  have hl' : cs.length = 8 := hl.trans (by kernel_rfl)
  have hc : Tryz.prog.cellsOf 3 = 1 := by kernel_rfl
  have F : ∀ i, i < 8 → ∃ z : Int, cs[i]? = some (.int .i64 z) := by
    intro i hi
    have h1 := hel i hi
    rw [hc, Nat.mul_one, List.drop_eq_getElem_cons (by omega)] at h1
    have h2 : xs[i]? = some (xs[i]'(by omega)) := List.getElem?_eq_getElem (by omega)
    obtain ⟨z, k, _⟩ := DataW.trod_int Tryz.underlying3 (h1.trans h2)
    simp only [List.take_succ_cons, List.take_zero, List.cons.injEq, and_true] at k
    exact ⟨z, by rw [List.getElem?_eq_getElem (by omega), k]⟩
  have G : ∃ A : Nat → Int, ∀ i, i < 8 → cs[i]? = some (.int .i64 (A i)) :=
    ⟨fun i => if h : i < 8 then Classical.choose (F i h) else 0, fun i hi => by simp only [dif_pos hi]; exact Classical.choose_spec (F i hi)⟩
  obtain ⟨A, hA⟩ := G
  refine ⟨A, List.ext_getElem? fun i => ?_⟩
  by_cases hi : i < 8
  · rw [hA i hi, Array.getElem?_toList, arr_get A hi]
  · rw [List.getElem?_eq_none (by omega), List.getElem?_eq_none (by simp; omega)]
set_option maxRecDepth 100000 in
theorem trod_ver (h : DataW.trod enc Tryz.prog w base spare held fuel 37 cs = some x) : ∃ r c : Int, cs = [.int .i64 r, .int .i64 c] := by
  obtain ⟨xs, n, hn, hx, hl, hxl, hf⟩ := DataW.trod_struct Tryz.underlying37 h
  have hl' : cs.length = 2 := hl.trans (by kernel_rfl)
  have F := fun i f hi => field_at (P := Tryz.prog) (by kernel_rfl) (by rw [hl']; rfl) hxl hf i f hi
  match cs, hl' with
  | [c0, c1], _ =>
    obtain ⟨_, _, e0, t0⟩ := F 0 _ rfl
    obtain ⟨_, _, e1, t1⟩ := F 1 _ rfl
    obtain ⟨s0, k0, _⟩ := DataW.trod_int Tryz.underlying3 t0
    obtain ⟨s1, k1, _⟩ := DataW.trod_int Tryz.underlying3 t1
    simp only [List.cons.injEq, and_true] at k0 k1
    simp at e0 e1
    subst e0 e1 k0 k1
    exact ⟨s0, s1, rfl⟩
set_option maxRecDepth 100000 in
theorem open_ver {r : Reach} {b0 : Nat} {v : Value} {d : DataW H} {p : List MemPlace} (hv : Value.okWide Tryz.prog w r b0 37 v) (h : DataW.Trod enc Tryz.prog w base spare held 37 v d p) :
    ∃ r c : Int, v = .agg #[.int .i64 r, .int .i64 c] := by
  obtain ⟨l, rfl, hsz⟩ := okWide_struct Tryz.underlying37 hv
  obtain ⟨f, hf⟩ := h
  obtain ⟨r, c, e⟩ := trod_ver hf
  refine ⟨r, c, ?_⟩
  obtain ⟨l⟩ := l
  have : l = _ := e
  rw [this]
end
end Go.Proofs.YtjkcooakddlppaaGreat
/- The laws' own helper of errors: an error's number. Walked. -/
namespace Go.Proofs.YtjkcooakddlppaaGreat
set_option linter.unusedVariables false
set_option linter.unusedSimpArgs false
set_option maxRecDepth 100000
open Go.RowKit
def errV (n : Nat) : Value := if n = 0 then .nilIface else .iface 90 (.int .i64 n)
theorem run_eq_code (n k : Int) (w : World) : (binOp .eql 53 (.iface 90 (.int .i64 n)) (.iface 90 (.int .i64 k))).run Tryz.prog w = .ok (.bool (n == k)) w := by
  have hc : (Tryz.prog.info? 90).map (·.comparable) = some true := by kernel_rfl
  cases hq : Tryz.prog.info? 90 with
  | none => rw [hq] at hc; cases hc
  | some i =>
    have h1 : i.comparable = true := by rw [hq] at hc; simpa using hc
    have e : (Op.equalIn 9999 90 (.int .i64 n) (.int .i64 k)).run Tryz.prog w = .ok (n == k) w := by
      unfold Op.equalIn
      simp [run_underlying Tryz.underlying90]
    have e2 : (Op.equalIn 10000 53 (.iface 90 (.int .i64 n)) (.iface 90 (.int .i64 k))).run Tryz.prog w = .ok (n == k) w := by
      rw [show (10000 : Nat) = 9999 + 1 from rfl]
      unfold Op.equalIn
      simp [run_underlying Tryz.underlying53, typeInfo, hq, h1, e]
    simp [binOp, Op.equal, Op.maxDepth, e2]
attribute [local go_sem ↓] run_eq_code
def CodeRel (n : Nat) (w0 : World) (i : Value) (wr : World) : Prop := ∃ k : Nat, 1 ≤ k ∧ k ≤ n ∧ i = .int .i64 k ∧ Hid (w0 = wr)
set_option maxRecDepth 100000 in
set_option maxHeartbeats 1000000 in
theorem code_calls (n : Nat) (hn : n ≤ 10) (w : World) :
    Calls Tryz.prog 14 #[errV n] w fun e w' => e = .returned (.int .i64 n) ∧ w = w' := by
  by_cases h0 : n = 0
  · subst h0
    rw [show errV 0 = .nilIface from rfl]
    go_enter Tryz.func14, Tryz.ntmps14
    go_wp2_with fail
    go_ret
    exact ⟨rfl, rfl⟩
  · rw [show errV n = .iface 90 (.int .i64 n) from if_neg h0]
    go_enter Tryz.func14, Tryz.ntmps14
    go_wp2_with fail
    go_loopw [3] (fun i wr => CodeRel n w i wr) (fun i _ => 11 - (intOf i).toNat)
    case atStart => exact ⟨1, Nat.le_refl _, by omega, rfl, rfl⟩
    case round =>
      obtain ⟨k, hk1, hk, rfl, hw⟩ := hrel
      have ew := hw.out
      subst ew
      clear hw
      have g1 : (k : Int) ≤ 10 := by omega
      by_cases e : n = k
      · subst e
        go_wp2_with fail
        go_ret
        exact ⟨rfl, rfl⟩
      · have g2 : ((n : Int) == (k : Int)) = false := by rw [beq_eq_false_iff_ne]; omega
        go_wp2_with fail
        go_roundw
        case rel => exact ⟨k + 1, by omega, by omega, by go_num, rfl⟩
        case measure => simp [intOf]; omega
end Go.Proofs.YtjkcooakddlppaaGreat
