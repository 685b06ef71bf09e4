/- gallipotref20.Place: the document's walk. -/
import Derived.Test.YtechmejmlelmmaaTreC
import Derived.Test.YtechmejmlelmmaaRefSeen
namespace Go.Proofs.Ytechmejmlelmmaa
set_option linter.unusedVariables false
set_option linter.unusedSimpArgs false
set_option maxRecDepth 100000
open Go.RowKit

theorem info_rnode : (Try.prog.info? 33).map (fun i => (i.zero, i.size, i.bytes)) = some (some (.agg #[.int .i64 0, .int .i64 0]), 2, 16) := by kernel_rfl
theorem mkRNode (n : Nat) (hn : n ≤ 1000) (w : World) : (Instr.makeSlice 29 (.int .i64 (n : Nat)) (.int .i64 (n : Nat))).run Try.prog w = .ok (.slice (some ⟨w.heap.size, 0, none⟩) n n) (w.alloc (.cells (madeCells #[.int .i64 0, .int .i64 0] (n * 2)) 33)) := by
  obtain ⟨i0, hi, hz0, hz1, hz2⟩ := info_parts info_rnode
  have := run_makeSlice (P := Try.prog) w 29 33 i0 _ Try.underlying29 hi hz0 .i64 .i64 (n : Int) (n : Int) (by omega) (Int.le_refl _) (by rw [hz1]; omega) (by rw [hz2]; omega) (by omega)
  rw [hz1] at this
  exact this

/-- The first root from a place on. -/
def rootFrom (l : List Pr) (j : Nat) : Int := match (l.drop j).findIdx? starB with | some r => ((r + j : Nat) : Int) | none => -1
theorem rootFrom_len (l : List Pr) : rootFrom l l.length = -1 := by simp [rootFrom]
theorem rootFrom_step {l : List Pr} {j : Nat} {q : Pr} (h : l[j]? = some q) : rootFrom l j = if q.op = 1 then (j : Int) else rootFrom l (j + 1) := by
  obtain ⟨hj, e⟩ := List.getElem?_eq_some_iff.1 h
  unfold rootFrom
  rw [List.drop_eq_getElem_cons hj, e, List.findIdx?_cons]
  unfold starB
  by_cases h1 : q.op = 1
  · rw [if_pos h1, h1]; simp
  · rw [if_neg h1]
    have : (q.op == 1) = false := by simpa using h1
    rw [this]
    simp only [Bool.false_eq_true, if_false]
    cases (l.drop (j + 1)).findIdx? (fun p => p.op == 1) with
    | none => rfl
    | some r => simp; omega
theorem rootFrom_lt {l : List Pr} {j : Nat} (h : 0 ≤ rootFrom l j) : rootFrom l j < l.length := by
  unfold rootFrom at *
  cases hf : (l.drop j).findIdx? starB with
  | none => rw [hf] at h; simp at h
  | some r =>
    obtain ⟨hr, _⟩ := List.findIdx?_eq_some_iff_getElem.1 hf
    rw [List.length_drop] at hr
    show ((r + j : Nat) : Int) < _
    omega
theorem root_none {l : List Pr} (h : rootFrom l 0 < 0) : trRoot l = none := by
  unfold trRoot
  have : l.findIdx? (fun p => p.op == 1) = none := by
    cases hf : l.findIdx? (fun p => p.op == 1) with
    | none => rfl
    | some r =>
      unfold rootFrom at h
      rw [List.drop_zero, show l.findIdx? starB = some r from hf] at h
      simp at h; omega
  rw [this]; simp
theorem root_some {l : List Pr} (h : 0 ≤ rootFrom l 0) (h8 : l.length ≤ 8) (ha : l.all Pr.mayB = true) : ∃ r : Nat, trRoot l = some r ∧ rootFrom l 0 = (r : Int) := by
  unfold trRoot
  rw [if_pos ⟨h8, ha⟩]
  unfold rootFrom at *
  rw [List.drop_zero] at *
  cases hf : l.findIdx? starB with
  | none => rw [hf] at h; simp at h
  | some r => exact ⟨r, hf, by simp⟩
theorem root_not {l : List Pr} (h : ¬ (l.length ≤ 8 ∧ l.all Pr.mayB = true)) : trRoot l = none := by unfold trRoot; rw [if_neg h]

/-- What the first loop keeps: j are left. -/
def RootRel (l : List Pr) (n : Nat) (w : World) (iv rv : Value) (wr : World) : Prop :=
  ∃ j : Nat, j ≤ n ∧ iv = .int .i64 ((j : Int) - 1) ∧ rv = .int .i64 (rootFrom l j) ∧ Hid (∀ k q, j ≤ k → l[k]? = some q → q.mayB = true) ∧ (j < n → n ≤ 8) ∧ Hid (Below w.heap.size w wr)
/-- What the second loop keeps. -/
structure RPl (w : World) (B r n : Nat) (inn : Nat → Nat → Bool) (k : Nat) (wr : World) : Prop where
  nd : ∃ a, Own wr B a 33 ∧ NdA a n (trS r inn k)
  bel : Below w.heap.size w wr
  hB : w.heap.size ≤ B
section
variable {w wr W : World} {B r n k : Nat} {inn : Nat → Nat → Bool}
theorem RPl.later (h : RPl w B r n inn k wr) (hb : Below wr.heap.size wr W) : RPl w B r n inn k W := by
  obtain ⟨⟨a, h1, h2⟩, h4, h5⟩ := h
  exact ⟨⟨a, h1.later hb, h2⟩, h4.trans (hb.mono h4.size), h5⟩
theorem RPl.same (h : RPl w B r n inn k wr) (e : k = r) : RPl w B r n inn (k + 1) wr := by
  obtain ⟨h1, h3, h4⟩ := h
  exact ⟨by unfold trS; rw [if_pos e]; exact h1, h3, h4⟩
theorem RPl.step (h : RPl w B r n inn k wr) (hk : k < n) (hne : k ≠ r) {x : Nat × Nat} (hx : x = trNode (trS r inn k) (trBest r (trS r inn k) (inn k) k)) :
    RPl w B r n inn (k + 1) ((wr.setCell ⟨B, k * 2, none⟩ (.int .i64 (x.1 : Nat))).setCell ⟨B, k * 2 + 1, none⟩ (.int .i64 (x.2 : Nat))) := by
  obtain ⟨⟨a, h1, h2⟩, h4, h5⟩ := h
  refine ⟨⟨_, ((h1.set (k * 2) (.int .i64 (x.1 : Nat))).set (k * 2 + 1) (.int .i64 (x.2 : Nat))), ?_⟩, ((h4.setCell (by show _ ≤ B; omega) _).setCell (by show _ ≤ B; omega) _), h5⟩
  rw [show trS r inn (k + 1) = (if k = r then trS r inn k else trPut (trS r inn k) k (trNode (trS r inn k) (trBest r (trS r inn k) (inn k) k))) from rfl, if_neg hne, ← hx]
  exact h2.put hk x
end
theorem rpl_start {w w1 : World} (hb : Below w.heap.size w w1) (r n : Nat) (inn : Nat → Nat → Bool) : RPl w w1.heap.size r n inn 0 (w1.alloc (.cells (madeCells #[.int .i64 0, .int .i64 0] (n * 2)) 33)) :=
  ⟨⟨_, Own.new w1 _ _, NdA.made n⟩, hb.alloc hb.size _, hb.size⟩
def RPlRel (w : World) (B r n : Nat) (inn : Nat → Nat → Bool) (j : Value) (wr : World) : Prop := ∃ k : Nat, k ≤ n ∧ j = .int .i64 k ∧ Hid (RPl w B r n inn k wr)
def BestRel (w : World) (B r n : Nat) (inn : Nat → Nat → Bool) (k : Nat) (jv bv : Value) (wr : World) : Prop :=
  ∃ j b : Nat, j ≤ k ∧ jv = .int .i64 j ∧ bv = .int .i64 b ∧ Hid (b = trBest r (trS r inn k) (inn k) j) ∧ b < n ∧ Hid (RPl w B r n inn k wr)

set_option maxRecDepth 100000 in
set_option maxHeartbeats 8000000 in
theorem refPlace_calls (l : List Pr) (oa : Option Addr) (cap : Nat) (w : World) (hS : ∀ k ∈ l, k.size ≤ 1000) (hlen : l.length ≤ 1000) (hL : LK w l (.slice oa l.length cap)) :
    Calls Try.prog 9 #[.slice oa l.length cap] w (PlcOut l w) := by
  have HLK := Lib.hid hL
  obtain ⟨_, _, ba, o, V, e1, -, hl, hc, hn0, hcell, hrec⟩ := lies_slice hL
  cases e1
  simp only [Pr.kids_node] at *
  unfold maxLen at hc
  have HC := Lib.hid hcell
  have HRc := Lib.hid hrec
  have HN := Lib.hid hn0
  have HS := Lib.hid hS
  have RL := Lib.hid (rootFrom_len l)
  clear hL hcell hrec hn0 hS
  have RN := Lib.hid (fun h => root_not (l := l) h)
  generalize hn : l.length = n at *
  have HLN := Lib.hid hn
  clear hn
  go_enter Try.func9, Try.ntmps9
  go_wp2_with fail
  go_loopw [4, 3] (fun iv rv wr => RootRel l n w iv rv wr) (fun iv _ _ => (intOf iv + 1).toNat)
  case atStart => exact ⟨n, Nat.le_refl _, rfl, by rw [RL.out], Lib.hid (fun k q hk hq => by have := (List.getElem?_eq_some_iff.1 hq).1; have := HLN.out; omega), fun h => absurd h (Nat.lt_irrefl _), Lib.hid (Below.refl _ _)⟩
  case round =>
    obtain ⟨j, hj, rfl, rfl, HM, h8, BL⟩ := hrel
    by_cases hlt : 0 < j
    · obtain ⟨i, rfl⟩ : ∃ i, j = i + 1 := ⟨j - 1, by omega⟩
      have ei : ((i + 1 : Nat) : Int) - 1 = (i : Int) := by omega
      simp only [ei]
      clear ei
      obtain ⟨q, hq⟩ : ∃ q, l[i]? = some q := ⟨_, List.getElem?_eq_getElem (by rw [HLN.out]; omega)⟩
      obtain ⟨rfl, hB2⟩ := HN.out (by omega)
      obtain ⟨od, cd, hV⟩ := lies_val (HRc.out i q hq)
      obtain ⟨c0, c1, c2, c3, c4⟩ := pc_cells (w := wr) (fun u v hv => (BL.out.cell (p := ⟨ba, o + i * 5 + u, none⟩) hB2).trans (HC.out i q hq u v hv))
      have L0 := (HRc.out i q hq).later BL.out (Nat.le_refl _)
      rw [hV] at c4 L0
      have CM := Lib.hid (refMay3_calls q (.slice od q.kids.length cd) wr L0 (HS.out q (List.mem_of_getElem? hq)))
      have RS := Lib.hid (rootFrom_step hq)
      have q0 : (0 : Int) ≤ (i : Int) := by omega
      have q1 : (i : Int) < (n : Int) := by omega
      have q2 : -9223372036854775808 ≤ (i : Int) - 1 := by omega
      have q3 : (i : Int) - 1 ≤ 9223372036854775807 := by omega
      have HQ := Lib.hid hq
      have zba : ba < wr.heap.size := Nat.lt_of_lt_of_le hB2 BL.out.size
      clear L0 hV hq
      cases hmq : q.mayB
      · have E := Lib.hid (RN.out (fun h => by
          have := List.all_eq_true.1 h.2 q (List.mem_of_getElem? HQ.out)
          rw [hmq] at this; cases this))
        rw [hmq] at CM
        clear hmq
        go_wp2_with (go_at_call 15; refine CM.out.mono ?_; rintro e w3 ⟨rfl, hb3⟩)
        go_ret
        exact .inl ⟨E.out, rfl, BL.out.trans (hb3.mono BL.out.size)⟩
      · rw [hmq] at CM
        by_cases h9 : 8 < n
        · have h9' : (8 : Int) < (n : Int) := by omega
          have E := Lib.hid (RN.out (fun h => by omega))
          clear hmq
          go_wp2_with (go_at_call 15; refine CM.out.mono ?_; rintro e w3 ⟨rfl, hb3⟩)
          go_ret
          exact .inl ⟨E.out, rfl, BL.out.trans (hb3.mono BL.out.size)⟩
        · have h9' : ¬ (8 : Int) < (n : Int) := by omega
          have HM2 := Lib.hid (show ∀ k q', i ≤ k → l[k]? = some q' → q'.mayB = true from fun k q' hk hq' => by
            by_cases e : k = i
            · subst e; rw [HQ.out] at hq'; cases hq'; exact hmq
            · exact HM.out k q' (by omega) hq')
          clear hmq
          by_cases h1 : q.op = 1
          · have E := Lib.hid (show rootFrom l i = (i : Int) by rw [RS.out, if_pos h1])
            have h1' : (q.op == 1) = true := by rw [beq_iff_eq]; exact h1
            clear h1
            go_wp2_with (go_at_call 15; refine CM.out.mono ?_; rintro e w3 ⟨rfl, hb3⟩; have d0 := (hb3.cell (p := ⟨ba, o + i * 5, none⟩) zba).trans c0)
            go_roundw
            case rel => exact ⟨i, by omega, by go_num, by rw [E.out], HM2, fun _ => by omega, Lib.hid (BL.out.trans (hb3.mono BL.out.size))⟩
            case measure => simp [intOf] <;> omega
          · have E := Lib.hid (show rootFrom l i = rootFrom l (i + 1) by rw [RS.out, if_neg h1])
            have h1' : (q.op == 1) = false := by rw [beq_eq_false_iff_ne]; exact h1
            clear h1
            go_wp2_with (go_at_call 15; refine CM.out.mono ?_; rintro e w3 ⟨rfl, hb3⟩; have d0 := (hb3.cell (p := ⟨ba, o + i * 5, none⟩) zba).trans c0)
            go_roundw
            case rel => exact ⟨i, by omega, by go_num, by rw [E.out], HM2, fun _ => by omega, Lib.hid (BL.out.trans (hb3.mono BL.out.size))⟩
            case measure => simp [intOf] <;> omega
    · have e : j = 0 := by omega
      subst e
      have HA := Lib.hid (show l.all Pr.mayB = true from List.all_eq_true.2 fun q hq => by
        obtain ⟨k, hk⟩ := List.mem_iff_getElem?.1 hq
        exact HM.out k q (Nat.zero_le _) hk)
      have q0 : ¬ (0 : Int) ≤ ((0 : Nat) : Int) - 1 := by omega
      by_cases hneg : rootFrom l 0 < 0
      · have E := Lib.hid (root_none hneg)
        generalize rootFrom l 0 = R at *
        go_wp2_with fail
        go_ret
        exact .inl ⟨E.out, rfl, BL.out⟩
      · have hlt0 := rootFrom_lt (l := l) (j := 0) (by omega)
        rw [HLN.out] at hlt0
        have hn8 : n ≤ 8 := h8 (by omega)
        obtain ⟨r, hr, hre⟩ := root_some (l := l) (by omega) (by rw [HLN.out]; exact hn8) HA.out
        rw [hre] at hneg hlt0 ⊢
        have hrn : r < n := by omega
        have HRT := Lib.hid hr
        have HSF := Lib.hid (show trSf l r = trS r (inL l) n by rw [← HLN.out]; rfl)
        have PS := Lib.hid (rpl_start BL.out r n (inL l))
        have hmk := mkRNode n (by omega) wr
        have hneg' : ¬ (r : Int) < 0 := by omega
        clear hre hr hneg HM
        go_wp2_with fail
        clear hmk
        generalize wr.heap.size = B at *
        generalize wr.alloc (.cells (madeCells #[.int .i64 0, .int .i64 0] (n * 2)) 33) = wq at *
        go_loopw [7] (fun iv wr => RPlRel w B r n (inL l) iv wr) (fun iv _ => n - (intOf iv).toNat)
        case atStart => exact ⟨0, Nat.zero_le _, rfl, PS⟩
        case round =>
          clear PS BL
          obtain ⟨k, hk, rfl, HP⟩ := hrel
          by_cases hlt : k < n
          · have q1 : (0 : Int) ≤ (k : Int) := by omega
            have q2 : (k : Int) < (n : Int) := by omega
            have q3 : (k : Int) + 1 ≤ 9223372036854775807 := by omega
            by_cases hkr : k = r
            · have hkr' : (k : Int) = (r : Int) := by rw [hkr]
              have HG := Lib.hid (HP.out.same hkr)
              clear hkr
              go_wp2_with fail
              go_roundw
              case rel => exact ⟨k + 1, by omega, by go_num, HG⟩
              case measure => simp [intOf] <;> omega
            · have hkr' : ((k : Int) == (r : Int)) = false := by rw [beq_eq_false_iff_ne]; omega
              have HKR := Lib.hid hkr
              clear hkr
              obtain ⟨p, hp⟩ : ∃ p, l[k]? = some p := ⟨_, List.getElem?_eq_getElem (by rw [HLN.out]; exact hlt)⟩
              obtain ⟨rfl, hB2⟩ := HN.out (by omega)
              have HPk := Lib.hid hp
              clear hp
              go_wp2_with fail
              go_loopw [9, 8] (fun jv bv wr => BestRel w B r n (inL l) k jv bv wr) (fun jv _ _ => k - (intOf jv).toNat)
              case atStart => exact ⟨0, r, Nat.zero_le _, rfl, rfl, Lib.hid rfl, hrn, HP⟩
              case round =>
                clear HP
                obtain ⟨j, b, hj, rfl, rfl, HBE, hbn, HP⟩ := hrel
                by_cases hltj : j < k
                · obtain ⟨q, hq⟩ : ∃ q, l[j]? = some q := ⟨_, List.getElem?_eq_getElem (by rw [HLN.out]; omega)⟩
                  obtain ⟨oq, cq, hVp⟩ := lies_val (HRc.out k p HPk.out)
                  obtain ⟨od, cd, hV⟩ := lies_val (HRc.out j q hq)
                  obtain ⟨c0, c1, c2, c3, c4⟩ := pc_cells (w := wr) (fun u v hv => (HP.out.bel.cell (p := ⟨ba, o + j * 5 + u, none⟩) hB2).trans (HC.out j q hq u v hv))
                  obtain ⟨d0, d1, d2, d3, d4⟩ := pc_cells (w := wr) (fun u v hv => (HP.out.bel.cell (p := ⟨ba, o + k * 5 + u, none⟩) hB2).trans (HC.out k p HPk.out u v hv))
                  have L0 := (HRc.out j q hq).later HP.out.bel (Nat.le_refl _)
                  have L1 := (HRc.out k p HPk.out).later HP.out.bel (Nat.le_refl _)
                  rw [hV] at c4 L0
                  rw [hVp] at d4 L1
                  have CC := fun dd os => refIn_calls p q (.slice oq p.kids.length cq) (.slice od q.kids.length cd) (Sort.grow (redrawn wr dd) os) (L1.later (below_regrown _ _ _) (Nat.le_refl _)) (L0.later (below_regrown _ _ _) (Nat.le_refl _)) (HS.out p (List.mem_of_getElem? HPk.out)) (HS.out q (List.mem_of_getElem? hq))
                  rw [← inL_at HPk.out hq] at CC
                  have m3 := fun dd os => Lib.hid (Calls.regrown_of (CC dd os))
                  have r0 := fun dd os => cell_regrown c0 dd os
                  have r1 := fun dd os => cell_regrown c1 dd os
                  have r2 := fun dd os => cell_regrown c2 dd os
                  have r3 := fun dd os => cell_regrown c3 dd os
                  have r4 := fun dd os => cell_regrown c4 dd os
                  have s0 := fun dd os => cell_regrown d0 dd os
                  have s1 := fun dd os => cell_regrown d1 dd os
                  have s2 := fun dd os => cell_regrown d2 dd os
                  have s3 := fun dd os => cell_regrown d3 dd os
                  have s4 := fun dd os => cell_regrown d4 dd os
                  have p0 : (0 : Int) ≤ (j : Int) := by omega
                  have p1 : (j : Int) < (n : Int) := by omega
                  have p2 : (j : Int) + 1 ≤ 9223372036854775807 := by omega
                  have p3 : (0 : Int) ≤ (b : Int) := by omega
                  have p4 : (b : Int) < (n : Int) := by omega
                  have p5 : (j : Int) < (k : Int) := by omega
                  have HBS := Lib.hid (show trBest r (trS r (inL l) k) (inL l k) (j + 1) = (if j ≠ r ∧ inL l k j = true ∧ (trS r (inL l) k b).2 < (trS r (inL l) k j).2 then j else b) by rw [HBE.out]; rfl)
                  clear L0 L1 CC hV hVp hq
                  have HIB := Lib.hid (rfl : inL l k j = inL l k j)
                  generalize hib : inL l k j = ib at *
                  clear hib HIB
                  go_wp2_with fail
                  refine wp_region_quiet_below (by kernel_rfl) (by kernel_rfl) ?_
                  repeat (first | go_big_quiet_step ((with_reducible exact (m3 _ _).out)) | quiet_step (with_reducible exact (m3 _ _).out))
                  refine wpQuiet_nil ?_
                  intro w7 hw'
                  have hb' := Lib.hid (regrown_below hw')
                  clear hw' m3 r0 r1 r2 r3 r4 s0 s1 s2 s3 s4 c0 c1 c2 c3 c4 d0 d1 d2 d3 d4
                  replace HP := Lib.hid (HP.out.later hb'.out)
                  clear hb'
                  obtain ⟨a0, ho0, ha0⟩ := HP.out.nd
                  have e0 := ha0.lies ho0
                  have n1 := e0.c1 j (by omega)
                  have n2 := e0.c1 b hbn
                  clear e0 ha0 ho0 a0
                  have t1 := fun dd os => cell_regrown n1 dd os
                  have t2 := fun dd os => cell_regrown n2 dd os
                  have HLEV := Lib.hid (fun i => trS_lev r (inL l) k i)
                  generalize (trS r (inL l) k j).2 = lj at *
                  generalize (trS r (inL l) k b).2 = lb at *
                  by_cases hjr : j = r
                  · have g1 : ((j : Int) != (r : Int)) = false := by rw [bne_eq_false_iff_eq]; omega
                    have HG := Lib.hid (show b = trBest r (trS r (inL l) k) (inL l k) (j + 1) by rw [HBS.out, if_neg (fun h => h.1 hjr)])
                    clear hjr n1 n2
                    cases ib
                    all_goals
                      go_wp2_with fail
                      refine wp_region_quiet_below (by kernel_rfl) (by kernel_rfl) ?_
                      repeat (first | go_big_quiet_step (fail) | quiet_step (fail))
                      refine wpQuiet_nil ?_
                      intro w8 hw8
                      have hb8 := Lib.hid (regrown_below hw8)
                      clear hw8 t1 t2
                      replace HP := Lib.hid (HP.out.later hb8.out)
                      clear hb8
                      go_wp2_with fail
                      go_roundw
                      case rel => exact ⟨j + 1, b, by omega, by go_num, rfl, HG, by omega, HP⟩
                      case measure => simp [intOf] <;> omega
                  · have g1 : ((j : Int) != (r : Int)) = true := by rw [bne_iff_ne]; omega
                    cases ib
                    · have HG := Lib.hid (show b = trBest r (trS r (inL l) k) (inL l k) (j + 1) by rw [HBS.out, if_neg (fun h => by cases h.2.1)])
                      clear hjr n1 n2
                      go_wp2_with fail
                      refine wp_region_quiet_below (by kernel_rfl) (by kernel_rfl) ?_
                      repeat (first | go_big_quiet_step (fail) | quiet_step (fail))
                      refine wpQuiet_nil ?_
                      intro w8 hw8
                      have hb8 := Lib.hid (regrown_below hw8)
                      clear hw8 t1 t2
                      replace HP := Lib.hid (HP.out.later hb8.out)
                      clear hb8
                      go_wp2_with fail
                      go_roundw
                      case rel => exact ⟨j + 1, b, by omega, by go_num, rfl, HG, by omega, HP⟩
                      case measure => simp [intOf] <;> omega
                    · by_cases hlv : lb < lj
                      · have g2 : ((lb : Nat) : Int) < ((lj : Nat) : Int) := by omega
                        have HG := Lib.hid (show j = trBest r (trS r (inL l) k) (inL l k) (j + 1) by rw [HBS.out, if_pos ⟨hjr, rfl, hlv⟩])
                        clear hjr n1 n2 hlv
                        go_wp2_with fail
                        refine wp_region_quiet_below (by kernel_rfl) (by kernel_rfl) ?_
                        repeat (first | go_big_quiet_step (fail) | quiet_step (fail))
                        refine wpQuiet_nil ?_
                        intro w8 hw8
                        have hb8 := Lib.hid (regrown_below hw8)
                        clear hw8 t1 t2
                        replace HP := Lib.hid (HP.out.later hb8.out)
                        clear hb8
                        go_wp2_with fail
                        go_roundw
                        case rel => exact ⟨j + 1, j, by omega, by go_num, rfl, HG, by omega, HP⟩
                        case measure => simp [intOf] <;> omega
                      · have g3 : decide (lb < lj) = false := by rw [decide_eq_false_iff_not]; omega
                        have HG := Lib.hid (show b = trBest r (trS r (inL l) k) (inL l k) (j + 1) by rw [HBS.out, if_neg (fun h => hlv h.2.2)])
                        clear hjr n1 n2 hlv
                        go_wp2_with fail
                        refine wp_region_quiet_below (by kernel_rfl) (by kernel_rfl) ?_
                        repeat (first | go_big_quiet_step (fail) | quiet_step (fail))
                        refine wpQuiet_nil ?_
                        intro w8 hw8
                        have hb8 := Lib.hid (regrown_below hw8)
                        clear hw8 t1 t2
                        replace HP := Lib.hid (HP.out.later hb8.out)
                        clear hb8
                        go_wp2_with fail
                        go_roundw
                        case rel => exact ⟨j + 1, b, by omega, by go_num, rfl, HG, by omega, HP⟩
                        case measure => simp [intOf] <;> omega
                · have e : j = k := by omega
                  subst e
                  have p5 : ¬ (j : Int) < (j : Int) := by omega
                  obtain ⟨a0, ho0, ha0⟩ := HP.out.nd
                  have e0 := ha0.lies ho0
                  have n2 := e0.c1 b hbn
                  have cB0 := e0.c0 j hlt
                  have cB1 := e0.c1 j hlt
                  have fB := ho0.free
                  have zB := ho0.lt
                  have hlb := trS_lev r (inL l) j b
                  obtain ⟨x, hx⟩ : ∃ x, x = trNode (trS r (inL l) j) (trBest r (trS r (inL l) j) (inL l j) j) := ⟨_, rfl⟩
                  have HST := Lib.hid (HP.out.step hlt HKR.out hx)
                  rw [← HBE.out] at hx
                  unfold trNode at hx
                  generalize (trS r (inL l) j b).2 = lb at *
                  subst hx
                  have p3 : (0 : Int) ≤ (b : Int) := by omega
                  have p4 : (b : Int) < (n : Int) := by omega
                  have p6 : (b : Int) + 1 ≤ 9223372036854775807 := by omega
                  have p7 : ((lb : Nat) : Int) + 1 ≤ 9223372036854775807 := by omega
                  clear e0 ha0 ho0
                  go_wp2_with fail
                  go_roundw
                  case rel => exact ⟨j + 1, by omega, by go_num, HST⟩
                  case measure => simp [intOf] <;> omega
          · have e : k = n := by omega
            subst e
            obtain ⟨a0, ho0, ha0⟩ := HP.out.nd
            have HG := Lib.hid (show NdW wr k (trSf l r) B by rw [HSF.out]; exact ha0.lies ho0)
            have HB := Lib.hid HP.out.bel
            clear HP ha0 ho0
            go_wp2_with fail
            go_ret
            exact .inr ⟨r, B, HRT.out, by rw [HLN.out]; rfl, by rw [HLN.out]; exact HG.out, HB.out⟩

end Go.Proofs.Ytechmejmlelmmaa
