/- 'TreeClimbs' returns true, whatever it is given: the walk. -/
import Derived.Test.YtechmejmlelmmaaTreL
import Derived.Test.YtechmejmlelmmaaRefTre
namespace Go.Proofs.Ytechmejmlelmmaa
set_option linter.unusedVariables false
set_option linter.unusedSimpArgs false
set_option maxRecDepth 100000
open Go.RowKit

def JRel (n : Nat) (w : World) (iv : Value) (wr : World) : Prop := ∃ k : Nat, k ≤ n ∧ iv = .int .i64 k ∧ Hid (Below w.heap.size w wr)
def RtRel (l : List Pr) (n : Nat) (w : World) (iv rv : Value) (wr : World) : Prop := ∃ j : Nat, j ≤ n ∧ iv = .int .i64 ((j : Int) - 1) ∧ rv = .int .i64 (rootFrom l j + 1) ∧ w = wr
def UpRel (l : List Pr) (r k L : Nat) (w : World) (mv av : Value) (wr : World) : Prop := ∃ m : Nat, m ≤ L ∧ mv = .int .i64 m ∧ av = .int .i64 (trUp l r m (k + 1) : Nat) ∧ Hid (Below w.heap.size w wr)

set_option maxRecDepth 100000 in
set_option maxHeartbeats 16000000 in
theorem treeClimbs_calls (l : List Pr) (v : Value) (w : World) (h : LKT w l v) :
    Calls Try.prog 4 #[v] w fun e w' => e = .returned (.bool true) ∧ Below w.heap.size w w' := by
  have CU := Lib.hid (up20_calls w)
  have HA := Lib.hid h
  clear h
  go_enter Try.func4, Try.ntmps4
  go_wp2_with fail
  refine CU.out.mono ?_; rintro e w1 ⟨rfl, hb1⟩
  replace HA := Lib.hid (HA.out.later hb1 (Nat.le_refl _))
  have BL := Lib.hid hb1
  clear hb1 CU
  have CF := Lib.hid (few20_calls l v w1 HA.out)
  have HFY := Lib.hid (fun h => few20_yes (l := l) h)
  generalize few20 l = fw at *
  by_cases hf : fw = 0
  · subst hf
    go_wp2_with fail
    refine CF.out.mono ?_; rintro e w2 ⟨rfl, hb2⟩
    replace BL := Lib.hid (BL.out.trans (hb2.mono BL.out.size))
    clear hb2 CF
    go_wp2_with fail
    go_ret
    exact ⟨rfl, BL.out⟩
  · obtain ⟨e1, h12, hs⟩ := HFY.out hf
    subst e1
    clear HFY hf
    have HS := Lib.hid (show ∀ k ∈ l, k.size ≤ 1000 from fun k hk => by have := hs k hk; omega)
    go_wp2_with fail
    refine CF.out.mono ?_; rintro e w2 ⟨rfl, hb2⟩
    replace HA := Lib.hid (HA.out.later hb2 (Nat.le_refl _))
    replace BL := Lib.hid (BL.out.trans (hb2.mono BL.out.size))
    clear hb2 CF
    have CP := Lib.hid (preds_calls l v w2 HA.out hs h12)
    clear hs
    go_wp2_with fail
    refine CP.out.mono ?_; rintro e w3 ⟨v', rfl, hl3, hb3⟩
    replace BL := Lib.hid (BL.out.trans (hb3.mono BL.out.size))
    clear hb3 CP HA
    obtain ⟨oa, cap, rfl⟩ := lies_val hl3
    simp only [Pr.kids_node] at *
    have CT := Lib.hid (treePlace_calls l oa cap w3 HS.out hl3)
    have HL3 := Lib.hid hl3
    clear hl3
    go_wp2_with fail
    refine CT.out.mono ?_
    rintro e w4 (⟨_, rfl, hb4⟩ | ⟨r, B, hr, rfl, hN, hb4⟩)
    · replace BL := Lib.hid (BL.out.trans (hb4.mono BL.out.size))
      clear hb4
      generalize l.length = n at *
      go_wp2_with fail
      go_ret
      exact ⟨rfl, BL.out⟩
    · replace BL := Lib.hid (BL.out.trans (hb4.mono BL.out.size))
      obtain ⟨h8, -, hrn, -, -⟩ := trRoot_some hr
      have hL := HL3.out.later hb4 (Nat.le_refl _)
      clear hb4 HL3 CT
      obtain ⟨_, _, ba, o, V, e1, -, hl, hc, hn0, hcell, hrec⟩ := lies_slice hL
      cases e1
      simp only [Pr.kids_node] at *
      unfold maxLen at hc
      have HC := Lib.hid hcell
      have HRc := Lib.hid hrec
      obtain ⟨rfl, hB2⟩ := hn0 (by omega)
      have HNd := Lib.hid hN
      have HRT := Lib.hid hr
      have RL := Lib.hid (rootFrom_len l)
      have R0 := Lib.hid (show rootFrom l 0 = (r : Int) by
        unfold rootFrom
        rw [List.drop_zero]
        unfold trRoot at hr
        split at hr
        · rw [show l.findIdx? starB = some r from hr]; simp
        · cases hr)
      have HCL := Lib.hid (fun i hi => trUp_root hr i hi)
      have HCI := Lib.hid (fun i hi m hm => trUp_in hr i hi m hm)
      have HAT := Lib.hid (fun i hi hne => trSf_at (i := i) hr hi hne)
      have HR0 := Lib.hid (trSf_root l r)
      have HLV := Lib.hid (fun i => trSf_lev l r i)
      clear hL hcell hrec hn0 hN hr
      generalize hn : l.length = n at *
      have HLN := Lib.hid hn
      clear hn
      generalize hsd : trSf l r = s at *
      have HSD := Lib.hid hsd
      clear hsd
      have hn1 : ¬ (n : Int) = 0 := by omega
      go_wp2_with fail
      go_loopw [7, 6] (fun iv rv wr => RtRel l n w4 iv rv wr) (fun iv _ _ => (intOf iv + 1).toNat)
      case atStart => exact ⟨n, Nat.le_refl _, rfl, by rw [RL.out]; rfl, rfl⟩
      case round =>
        obtain ⟨j, hj, rfl, rfl, rfl⟩ := hrel
        by_cases hlt : 0 < j
        · obtain ⟨i, rfl⟩ : ∃ i, j = i + 1 := ⟨j - 1, by omega⟩
          have ei : ((i + 1 : Nat) : Int) - 1 = (i : Int) := by omega
          simp only [ei]
          clear ei
          obtain ⟨q, hq⟩ : ∃ q, l[i]? = some q := ⟨_, List.getElem?_eq_getElem (by rw [HLN.out]; omega)⟩
          obtain ⟨c0, -, -, -, -⟩ := pc_cells (w := w4) (fun u v hv => HC.out i q hq u v hv)
          have RS := Lib.hid (rootFrom_step hq)
          have q0 : (0 : Int) ≤ (i : Int) := by omega
          have q1 : (i : Int) < (n : Int) := by omega
          have q2 : -9223372036854775808 ≤ (i : Int) - 1 := by omega
          have q3 : (i : Int) - 1 ≤ 9223372036854775807 := by omega
          have q4 : (i : Int) + 1 ≤ 9223372036854775807 := by omega
          clear hq
          by_cases h1 : q.op = 1
          · have E := Lib.hid (show rootFrom l i = (i : Int) by rw [RS.out, if_pos h1])
            have h1' : (q.op == 1) = true := by rw [beq_iff_eq]; exact h1
            clear h1
            go_wp2_with fail
            go_roundw
            case rel => exact ⟨i, by omega, by go_num, by rw [E.out], rfl⟩
            case measure => simp [intOf] <;> omega
          · have E := Lib.hid (show rootFrom l i = rootFrom l (i + 1) by rw [RS.out, if_neg h1])
            have h1' : (q.op == 1) = false := by rw [beq_eq_false_iff_ne]; exact h1
            clear h1
            go_wp2_with fail
            go_roundw
            case rel => exact ⟨i, by omega, by go_num, by rw [E.out], rfl⟩
            case measure => simp [intOf] <;> omega
        · have e : j = 0 := by omega
          subst e
          rw [R0.out]
          clear R0 RL
          have q0 : ¬ (0 : Int) ≤ ((0 : Nat) : Int) - 1 := by omega
          generalize hri : (r : Int) + 1 = rI at *
          have HRI := Lib.hid hri
          clear hri
          go_wp2_with fail
          go_loopw [8] (fun iv wr => JRel n w4 iv wr) (fun iv _ => n - (intOf iv).toNat)
          case atStart => exact ⟨0, Nat.zero_le _, rfl, Lib.hid (Below.refl _ _)⟩
          case round =>
            have B4 := BL
            clear BL
            obtain ⟨k, hk, rfl, BL⟩ := hrel
            by_cases hlt : k < n
            · have g1 := HNd.out.later BL.out
              have k0 := g1.c0 k hlt
              have k1 := g1.c1 k hlt
              have q1 : (0 : Int) ≤ (k : Int) := by omega
              have q2 : (k : Int) < (n : Int) := by omega
              have q3 : (k : Int) + 1 ≤ 9223372036854775807 := by omega
              clear g1
              by_cases hkr : k = r
              · subst hkr
                have k0' : wr.cell? ⟨B, k * 2, none⟩ = some (.int .i64 0) := by rw [k0, HR0.out]; rfl
                have k1' : wr.cell? ⟨B, k * 2 + 1, none⟩ = some (.int .i64 0) := by rw [k1, HR0.out]; rfl
                have g2 : (((k : Int) + 1) == rI) = true := by rw [beq_iff_eq]; exact HRI.out
                clear k0 k1
                have q4 : ¬ (n : Int) < 0 := by omega
                have q5 : ¬ (k : Int) < 0 := by omega
                go_wp2_with fail
                go_roundw
                case rel => exact ⟨k + 1, by omega, by go_num, BL⟩
                case measure => simp [intOf] <;> omega
              · obtain ⟨b, hb1, hbn, hb2, hb3, hb4, hb5⟩ := HAT.out k hlt hkr
                rw [hb1] at k0
                have HBR := Lib.hid hb2
                have HB4 := Lib.hid hb4
                have HB5 := Lib.hid hb5
                have hlb := HLV.out b
                have n1 := (HNd.out.later BL.out).c1 b hbn
                have HLK := Lib.hid hb3
                rw [hb3] at k1
                have HB1 := Lib.hid hb1
                clear hb1 hb2 hb3 hb4 hb5
                have e2 : (((s b).2 + 1 : Nat) : Int) = ((s b).2 : Int) + 1 := rfl
                rw [e2] at k1
                generalize hlbd : (s b).2 = lb at *
                have HLBD := Lib.hid hlbd
                have hpi : ((b + 1 : Nat) : Int) = (b : Int) + 1 := rfl
                generalize ((b + 1 : Nat) : Int) = pI at *
                have hri := HRI.out
                have f1 : (pI == 0) = false := by rw [beq_eq_false_iff_ne]; omega
                have f2 : (((k : Int) + 1) == rI) = false := by rw [beq_eq_false_iff_ne]; omega
                have f3 : ¬ pI < 0 := by omega
                have f4 : ¬ (n : Int) < pI := by omega
                have f5 : pI - 1 = (b : Int) := by omega
                have f6 : -9223372036854775808 ≤ pI - 1 := by omega
                have f7 : pI - 1 ≤ 9223372036854775807 := by omega
                have HPI := Lib.hid hpi
                have b0 : (0 : Int) ≤ (b : Int) := by omega
                have b1 : (b : Int) < (n : Int) := by omega
                have b2 : (b : Int) + 1 ≤ 9223372036854775807 := by omega
                have b3 : ((lb : Nat) : Int) + 1 ≤ 9223372036854775807 := by omega
                obtain ⟨p, hp⟩ : ∃ p, l[k]? = some p := ⟨_, List.getElem?_eq_getElem (by rw [HLN.out]; exact hlt)⟩
                obtain ⟨q, hq⟩ : ∃ q, l[b]? = some q := ⟨_, List.getElem?_eq_getElem (by rw [HLN.out]; exact hbn)⟩
                obtain ⟨oq, cq, hVp⟩ := lies_val (HRc.out k p hp)
                obtain ⟨od, cd, hV⟩ := lies_val (HRc.out b q hq)
                obtain ⟨c0, c1, c2, c3, c4⟩ := pc_cells (w := wr) (fun u v hv => (BL.out.cell (p := ⟨ba, o + b * 5 + u, none⟩) hB2).trans (HC.out b q hq u v hv))
                obtain ⟨d0, d1, d2, d3, d4⟩ := pc_cells (w := wr) (fun u v hv => (BL.out.cell (p := ⟨ba, o + k * 5 + u, none⟩) hB2).trans (HC.out k p hp u v hv))
                have L0 := (HRc.out b q hq).later BL.out (Nat.le_refl _)
                have L1 := (HRc.out k p hp).later BL.out (Nat.le_refl _)
                rw [hV] at c4 L0
                rw [hVp] at d4 L1
                have CC := fun dd os => contIn_calls p q (.slice oq p.kids.length cq) (.slice od q.kids.length cd) (Sort.grow (redrawn wr dd) os) (L1.later (below_regrown _ _ _) (Nat.le_refl _)) (L0.later (below_regrown _ _ _) (Nat.le_refl _)) (HS.out p (List.mem_of_getElem? hp)) (HS.out q (List.mem_of_getElem? hq))
                rw [← inL_at hp hq, HB4.out] at CC
                have m3 := fun dd os => Lib.hid (Calls.regrown_of (CC dd os))
                have r0 := fun dd os => cell_regrown c0 dd os
                have r1 := fun dd os => cell_regrown c1 dd os
                have r2 := fun dd os => cell_regrown c2 dd os
                have r3 := fun dd os => cell_regrown c3 dd os
                have r4 := fun dd os => cell_regrown c4 dd os
                have s0 := fun dd os => cell_regrown d0 dd os
                have s1 := fun dd os => cell_regrown d1 dd os
                have s2 := fun dd os => cell_regrown d2 dd os
                have s3 := fun dd os => cell_regrown d3 dd os
                have s4 := fun dd os => cell_regrown d4 dd os
                have t0 := fun dd os => cell_regrown k1 dd os
                have t1 := fun dd os => cell_regrown n1 dd os
                have HPk := Lib.hid hp
                have HVp := Lib.hid hVp
                clear CC L0 L1 hV hVp hq hp c0 c1 c2 c3 c4 d0 d1 d2 d3 d4
                have hbig : ((k : Int) < pI ∧ (pI != rI) = false) ∨ ¬ (k : Int) < pI := by
                  rcases HBR.out with e | e
                  · by_cases hh : (k : Int) < pI
                    · exact .inl ⟨hh, by rw [bne_eq_false_iff_eq]; omega⟩
                    · exact .inr hh
                  · exact .inr (by omega)
                clear hkr hpi hri e2 hlbd
                rcases hbig with ⟨w1, w2⟩ | w1
                all_goals
                  go_upto_region 22 with fail
                  clear w1
                  go_wp2_with fail
                  refine wp_region_quiet_below (by kernel_rfl) (by kernel_rfl) ?_
                  repeat (first | go_big_quiet_step ((with_reducible exact (m3 _ _).out)) | quiet_step (with_reducible exact (m3 _ _).out))
                  refine wpQuiet_nil ?_
                  intro w8 hw8
                  have hb8 := Lib.hid (regrown_below hw8)
                  clear hw8 m3 r0 r1 r2 r3 r4 s0 s1 s2 s3 s4 t0 t1 k0 k1 n1
                  replace BL := Lib.hid (BL.out.trans (hb8.out.mono BL.out.size))
                  clear hb8
                  go_wp2_with fail
                  go_loopw [10] (fun jv wr => JRel k w4 jv wr) (fun jv _ => k - (intOf jv).toNat)
                  case atStart => exact ⟨0, Nat.zero_le _, rfl, BL⟩
                  case round =>
                    clear BL
                    obtain ⟨j, hj, rfl, BL⟩ := hrel
                    by_cases hltj : j < k
                    · obtain ⟨x, hx⟩ : ∃ x, l[j]? = some x := ⟨_, List.getElem?_eq_getElem (by rw [HLN.out]; omega)⟩
                      obtain ⟨ox, cx, hVx⟩ := lies_val (HRc.out j x hx)
                      obtain ⟨c0, c1, c2, c3, c4⟩ := pc_cells (w := wr) (fun u v hv => (BL.out.cell (p := ⟨ba, o + j * 5 + u, none⟩) hB2).trans (HC.out j x hx u v hv))
                      obtain ⟨d0, d1, d2, d3, d4⟩ := pc_cells (w := wr) (fun u v hv => (BL.out.cell (p := ⟨ba, o + k * 5 + u, none⟩) hB2).trans (HC.out k p HPk.out u v hv))
                      have L0 := (HRc.out j x hx).later BL.out (Nat.le_refl _)
                      have L1 := (HRc.out k p HPk.out).later BL.out (Nat.le_refl _)
                      rw [hVx] at c4 L0
                      rw [HVp.out] at d4 L1
                      have CC := fun dd os => contIn_calls p x (.slice oq p.kids.length cq) (.slice ox x.kids.length cx) (Sort.grow (redrawn wr dd) os) (L1.later (below_regrown _ _ _) (Nat.le_refl _)) (L0.later (below_regrown _ _ _) (Nat.le_refl _)) (HS.out p (List.mem_of_getElem? HPk.out)) (HS.out x (List.mem_of_getElem? hx))
                      rw [← inL_at HPk.out hx] at CC
                      have m3 := fun dd os => Lib.hid (Calls.regrown_of (CC dd os))
                      have r0 := fun dd os => cell_regrown c0 dd os
                      have r1 := fun dd os => cell_regrown c1 dd os
                      have r2 := fun dd os => cell_regrown c2 dd os
                      have r3 := fun dd os => cell_regrown c3 dd os
                      have r4 := fun dd os => cell_regrown c4 dd os
                      have s0 := fun dd os => cell_regrown d0 dd os
                      have s1 := fun dd os => cell_regrown d1 dd os
                      have s2 := fun dd os => cell_regrown d2 dd os
                      have s3 := fun dd os => cell_regrown d3 dd os
                      have s4 := fun dd os => cell_regrown d4 dd os
                      have g1 := HNd.out.later BL.out
                      have n0 := g1.c1 j (by omega)
                      have n1 := g1.c1 b hbn
                      rw [HLBD.out] at n1
                      have t0 := fun dd os => cell_regrown n0 dd os
                      have t1 := fun dd os => cell_regrown n1 dd os
                      have p0 : (0 : Int) ≤ (j : Int) := by omega
                      have p1 : (j : Int) < (n : Int) := by omega
                      have p2 : (j : Int) + 1 ≤ 9223372036854775807 := by omega
                      have p3 : (j : Int) < (k : Int) := by omega
                      have HB6 := Lib.hid (HB5.out j hltj)
                      clear CC L0 L1 hVx hx c0 c1 c2 c3 c4 d0 d1 d2 d3 d4 g1 n0 n1
                      generalize (s j).2 = lj at *
                      generalize inL l k j = ib at *
                      cases ib
                      · clear HB6
                        go_wp2_with fail
                        refine wp_region_quiet_below (by kernel_rfl) (by kernel_rfl) ?_
                        repeat (first | go_big_quiet_step ((with_reducible exact (m3 _ _).out)) | quiet_step (with_reducible exact (m3 _ _).out))
                        refine wpQuiet_nil ?_
                        intro w8 hw8
                        have hb8 := Lib.hid (regrown_below hw8)
                        clear hw8 m3 r0 r1 r2 r3 r4 s0 s1 s2 s3 s4 t0 t1
                        replace BL := Lib.hid (BL.out.trans (hb8.out.mono BL.out.size))
                        clear hb8
                        go_wp2_with fail
                        go_roundw
                        case rel => exact ⟨j + 1, by omega, by go_num, BL⟩
                        case measure => simp [intOf] <;> omega
                      · have g3 : decide (lb < lj) = false := by rw [decide_eq_false_iff_not]; have := HB6.out rfl; omega
                        clear HB6
                        go_wp2_with fail
                        refine wp_region_quiet_below (by kernel_rfl) (by kernel_rfl) ?_
                        repeat (first | go_big_quiet_step ((with_reducible exact (m3 _ _).out)) | quiet_step (with_reducible exact (m3 _ _).out))
                        refine wpQuiet_nil ?_
                        intro w8 hw8
                        have hb8 := Lib.hid (regrown_below hw8)
                        clear hw8 m3 r0 r1 r2 r3 r4 s0 s1 s2 s3 s4 t0 t1
                        replace BL := Lib.hid (BL.out.trans (hb8.out.mono BL.out.size))
                        clear hb8
                        go_wp2_with fail
                        go_roundw
                        case rel => exact ⟨j + 1, by omega, by go_num, BL⟩
                        case measure => simp [intOf] <;> omega
                    · have e : j = k := by omega
                      subst e
                      have p3 : ¬ (j : Int) < (j : Int) := by omega
                      clear hj hltj
                      have HL1 := Lib.hid (show (s j).2 = lb + 1 from HLK.out)
                      go_wp2_with fail
                      go_loopw [12, 11] (fun mv av wr => UpRel l r j (lb + 1) w4 mv av wr) (fun mv _ _ => lb + 1 - (intOf mv).toNat)
                      case atStart => exact ⟨0, Nat.zero_le _, rfl, rfl, BL⟩
                      case round =>
                        clear BL
                        obtain ⟨m, hm, rfl, rfl, BL⟩ := hrel
                        have hin := HCI.out j hlt m (by rw [HL1.out]; exact hm)
                        have g1 := HNd.out.later BL.out
                        have k1 := g1.c1 j hlt
                        rw [HL1.out] at k1
                        have e2 : ((lb + 1 : Nat) : Int) = (lb : Int) + 1 := rfl
                        rw [e2] at k1
                        by_cases hlm : m < lb + 1
                        · obtain ⟨i1, i2, i3⟩ := hin
                          have HUE := Lib.hid (trUp_end l r m (j + 1))
                          rw [HSD.out] at HUE
                          generalize trUp l r m (j + 1) = a at *
                          obtain ⟨a', rfl⟩ : ∃ a', a = a' + 1 := ⟨a - 1, by omega⟩
                          rw [show a' + 1 - 1 = a' by omega] at HUE
                          have k0 := g1.c0 a' (by omega)
                          rw [← HUE.out] at k0
                          have hai : ((a' + 1 : Nat) : Int) = (a' : Int) + 1 := rfl
                          generalize ((a' + 1 : Nat) : Int) = aI at *
                          have u0 : (1 : Int) ≤ aI := by omega
                          have u1 : aI ≤ (n : Int) := by omega
                          have u2 : aI - 1 = (a' : Int) := by omega
                          have u3 : -9223372036854775808 ≤ aI - 1 := by omega
                          have u4 : aI - 1 ≤ 9223372036854775807 := by omega
                          have u5 : (m : Int) < (lb : Int) + 1 := by omega
                          have u6 : (0 : Int) ≤ (a' : Int) := by omega
                          have u7 : (a' : Int) < (n : Int) := by omega
                          have u8 : (m : Int) + 1 ≤ 9223372036854775807 := by omega
                          clear hai i1 i2 i3 g1 e2
                          go_wp2_with fail
                          go_roundw
                          case rel => exact ⟨m + 1, by omega, by go_num, rfl, BL⟩
                          case measure => simp [intOf] <;> omega
                        · have e : m = lb + 1 := by omega
                          subst e
                          have hr1 := HCL.out j hlt
                          rw [HL1.out] at hr1
                          rw [hr1]
                          have hri2 : ((r + 1 : Nat) : Int) = rI := HRI.out
                          rw [hri2]
                          have u5 : ¬ (lb : Int) + 1 < (lb : Int) + 1 := by omega
                          have u6 : ((lb + 1 : Nat) : Int) = (lb : Int) + 1 := rfl
                          rw [u6]
                          clear hin g1 hr1 hri2 e2 u6
                          go_wp2_with fail
                          go_roundw
                          case rel => exact ⟨j + 1, by omega, by go_num, BL⟩
                          case measure => simp [intOf] <;> omega
            · go_wp2_with fail
              go_ret
              exact ⟨rfl, B4.out.trans (BL.out.mono B4.out.size)⟩
end Go.Proofs.Ytechmejmlelmmaa
