/- tree.below: where a filter is placed: the code's walk. -/
import Derived.Test.YtechmejmlelmmaaTreA
import Derived.Test.YtechmejmlelmmaaStK
import Derived.Test.YtechmejmlelmmaaRefFits
namespace Go.Proofs.Ytechmejmlelmmaa
set_option linter.unusedVariables false
set_option linter.unusedSimpArgs false
set_option maxRecDepth 100000
open Go.RowKit

/-- Nodes that lie in a block. -/
structure NdW (w : World) (n : Nat) (s : Nat → Nat × Nat) (b : Nat) : Prop where
  lt : b < w.heap.size
  c0 : ∀ k, k < n → w.cell? ⟨b, k * 2, none⟩ = some (.int .i64 ((s k).1 : Nat))
  c1 : ∀ k, k < n → w.cell? ⟨b, k * 2 + 1, none⟩ = some (.int .i64 ((s k).2 : Nat))
theorem NdW.later {w w' : World} {n : Nat} {s : Nat → Nat × Nat} {b : Nat} (h : NdW w n s b) (hb : Below w.heap.size w w') : NdW w' n s b :=
  ⟨Nat.lt_of_lt_of_le h.lt hb.size, fun k hk => (hb.cell (p := ⟨b, _, none⟩) h.lt).trans (h.c0 k hk), fun k hk => (hb.cell (p := ⟨b, _, none⟩) h.lt).trans (h.c1 k hk)⟩
/-- Numbers that lie in a block. -/
structure PlW (w : World) (l : List Nat) (oa : Option Addr) (b : Nat) : Prop where
  at0 : 0 < l.length → oa = some ⟨b, 0, none⟩ ∧ b < w.heap.size
  cell : ∀ k j, l[k]? = some j → w.cell? ⟨b, k, none⟩ = some (.int .i64 (j : Nat))
theorem PlW.later {w w' : World} {l : List Nat} {oa : Option Addr} {b : Nat} (h : PlW w l oa b) (hb : Below w.heap.size w w') : PlW w' l oa b :=
  ⟨fun h0 => ⟨(h.at0 h0).1, Nat.lt_of_lt_of_le (h.at0 h0).2 hb.size⟩, fun k j hk => (hb.cell (p := ⟨b, _, none⟩) (h.at0 (by have := (List.getElem?_eq_some_iff.1 hk).1; omega)).2).trans (h.cell k j hk)⟩

theorem trLow_step {s : Nat → Nat × Nat} {inn : Nat → Bool} {l : List Nat} {k j : Nat} (h : l[k]? = some j) : trLow s inn (l.take (k + 1)) = trLow1 s inn (trLow s inn (l.take k)) j := by
  obtain ⟨hk, e⟩ := List.getElem?_eq_some_iff.1 h
  rw [List.take_add_one, h]
  simp [trLow, List.foldl_append]

abbrev ndV (x : Nat × Nat) : Array Value := #[.int .i64 (x.1 : Nat), .int .i64 (x.2 : Nat)]
def LowRel (pc : Array Value) (s : Nat → Nat × Nat) (inn : Nat → Bool) (pl : List Nat) (len : Nat) (w : World) (i : Value) (wr : World) : Prop :=
  ∃ (k : Nat) (N : Nat × Nat), k ≤ len ∧ i = .int .i64 k ∧ Hid (N = trLow s inn (pl.take k)) ∧ Hid (Own wr w.heap.size pc 37) ∧ Hid (Own wr (w.heap.size + 1) #[.int .i64 0, .int .i64 0] 32) ∧ Hid (Own wr (w.heap.size + 2) (ndV N) 32) ∧ Hid (Below w.heap.size w wr)

set_option maxRecDepth 100000 in
set_option maxHeartbeats 4000000 in
theorem below_calls (p : Pr) (vp : Value) (l : List Pr) (oa : Option Addr) (cap n : Nat) (s : Nat → Nat × Nat) (bn : Nat) (inn : Nat → Bool) (pl : List Nat) (op : Option Addr) (cp bp : Nat) (w : World) (hp : LP w p vp) (hL : LK w l (.slice oa l.length cap)) (hN : NdW w n s bn) (hn : l.length = n) (h8 : n ≤ 8) (hP : PlW w pl op bp)
    (hpl : ∀ j ∈ pl, j < n) (hlen : pl.length ≤ 100) (hlev : ∀ k, (s k).2 ≤ 8) (hinn : ∀ j q, l[j]? = some q → inn j = Pr.inB p q) (hs : p.size ≤ 1000) (hS : ∀ k ∈ l, k.size ≤ 1000) :
    Calls Try.prog 14 #[pvT p vp, .slice oa l.length cap, .slice (some ⟨bn, 0, none⟩) n n, .slice op pl.length cp] w fun e w' => e = .returned (.agg (ndV (trLow s inn pl))) ∧ Below w.heap.size w w' := by
  obtain ⟨_, _, ba, o, V, e1, _, hl, hc, hn0, hcell, hrec⟩ := lies_slice hL
  cases e1
  simp only [Pr.kids_node] at *
  unfold maxLen at hc
  obtain ⟨oq, cq, rfl⟩ := lies_val hp
  have HC := Lib.hid hcell
  have HR := Lib.hid hrec
  have HN := Lib.hid hn0
  have HNd := Lib.hid hN
  have HPl := Lib.hid hP
  have HQ := Lib.hid hp
  have HJ := Lib.hid hpl
  have HLV := Lib.hid hlev
  have HIN := Lib.hid hinn
  have HS := Lib.hid hS
  have HSp := Lib.hid hs
  have HLN := Lib.hid hn
  have hbn := hN.lt
  clear hL hcell hrec hn0 hN hP hp hpl hlev hinn hS hs
  rw [hn] at hl
  simp only [hn]
  clear hn
  generalize hm : pl.length = m at *
  have HM := Lib.hid hm
  clear hm
  go_enter Try.func14, Try.ntmps14
  go_wp2_with fail
  go_loopw [14] (fun j wr => LowRel #[.int .i64 p.op, .string p.text, .int .i64 p.n, .complex .f64 p.x p.y, .slice oq p.kids.length cq] s inn pl m w j wr) (fun j _ => m - (intOf j).toNat)
  case atStart =>
    exact ⟨0, (0, 0), Nat.zero_le _, rfl, Lib.hid (by simp [trLow]), Lib.hid (((Own.new w _ _).alloc _).alloc _), Lib.hid ((Own.newAt (w.alloc (.cells #[.int .i64 p.op, .string p.text, .int .i64 p.n, .complex .f64 p.x p.y, .slice oq p.kids.length cq] 37)) _ _ (by simp)).alloc _), Lib.hid (Own.newAt ((w.alloc (.cells #[.int .i64 p.op, .string p.text, .int .i64 p.n, .complex .f64 p.x p.y, .slice oq p.kids.length cq] 37)).alloc (.cells #[.int .i64 0, .int .i64 0] 32)) _ _ (by simp)), Lib.hid ((((Below.refl _ _).alloc (Nat.le_refl _) _).alloc (by simp) _).alloc (by simp; omega) _)⟩
  case round =>
    obtain ⟨k, N, hk, rfl, HF, O1, O2, O3, BL⟩ := hrel
    by_cases hlt : k < m
    · obtain ⟨j, hj⟩ : ∃ j, pl[k]? = some j := ⟨_, List.getElem?_eq_getElem (by rw [HM.out]; exact hlt)⟩
      obtain ⟨rfl, hB⟩ := HPl.out.at0 (by rw [HM.out]; omega)
      have hjn := HJ.out j (List.mem_of_getElem? hj)
      obtain ⟨q, hq⟩ : ∃ q, l[j]? = some q := ⟨_, List.getElem?_eq_getElem (by rw [HLN.out]; exact hjn)⟩
      obtain ⟨rfl, hB2⟩ := HN.out (by rw [HLN.out]; omega)
      obtain ⟨od, cd, hV⟩ := lies_val (HR.out j q hq)
      have cp0 := (BL.out.cell (p := ⟨bp, k, none⟩) hB).trans (HPl.out.cell k j hj)
      obtain ⟨c0, c1, c2, c3, c4⟩ := pc_cells (w := wr) (fun i u hu => (BL.out.cell (p := ⟨ba, o + j * 5 + i, none⟩) hB2).trans (HC.out j q hq i u hu))
      have L0 := (HR.out j q hq).later BL.out (Nat.le_refl _)
      rw [hV] at c4 L0
      have n1 := (BL.out.cell (p := ⟨bn, j * 2 + 1, none⟩) hbn).trans (HNd.out.c1 j hjn)
      have CC := fun dd os => contIn_calls p q (.slice oq p.kids.length cq) (.slice od q.kids.length cd) (Sort.grow (redrawn wr dd) os) ((HQ.out.later BL.out (Nat.le_refl _)).later (below_regrown _ _ _) (Nat.le_refl _)) (L0.later (below_regrown _ _ _) (Nat.le_refl _)) HSp.out (HS.out q (List.mem_of_getElem? hq))
      have hin := HIN.out j q hq
      rw [← hin] at CC
      have m3 := fun dd os => Lib.hid (Calls.regrown_of (CC dd os))
      have r0 := fun dd os => cell_regrown c0 dd os
      have r1 := fun dd os => cell_regrown c1 dd os
      have r2 := fun dd os => cell_regrown c2 dd os
      have r3 := fun dd os => cell_regrown c3 dd os
      have r4 := fun dd os => cell_regrown c4 dd os
      have r5 := fun dd os => cell_regrown n1 dd os
      have LA := fun dd os i => O1.out.has.regrown dd os i
      have LB := fun dd os i => O3.out.has.regrown dd os i
      have l3 := O3.out.cell
      have l1 := O1.out.cell
      have z1 := O1.out.lt
      have z3 := O3.out.lt
      have hjl := HLV.out j
      have HF2 := Lib.hid (trLow_step (s := s) (inn := inn) hj)
      rw [← HF.out] at HF2
      have hNl : N.2 ≤ 9 := by rw [HF.out]; exact trLow_lev s inn _ 8 HLV.out
      have q0 : (0 : Int) ≤ (k : Int) := by omega
      have q1 : (k : Int) < (m : Int) := by omega
      have q2 : (k : Int) + 1 ≤ 9223372036854775807 := by omega
      have q3 : (0 : Int) ≤ (j : Int) := by omega
      have q4 : (j : Int) < (n : Int) := by omega
      have q5 : (j : Int) + 1 ≤ 9223372036854775807 := by omega
      have q6 : (((s j).2 : Nat) : Int) + 1 ≤ 9223372036854775807 := by omega
      have HHN := Lib.hid hNl
      clear hj hq hV L0 CC hin hNl
      unfold trLow1 trNode at HF2
      generalize hlv : (s j).2 = lv at *
      have HLVJ := Lib.hid hlv
      clear hlv
      generalize inn j = ib at *
      have HBO := Lib.hid hbn
      by_cases hle : N.2 ≤ lv
      · have hle1 : ((N.2 : Nat) : Int) ≤ (lv : Int) := by omega
        go_wp2_with fail
        refine wp_region_quiet_below (by kernel_rfl) (by kernel_rfl) ?_
        repeat (first | go_big_quiet_step ((with_reducible exact (m3 _ _).out)) | quiet_step (with_reducible exact (m3 _ _).out))
        refine wpQuiet_nil ?_
        intro w7 hw'
        have hb' := Lib.hid (regrown_below hw')
        clear hw' m3 r0 r1 r2 r3 r4 r5 LA LB l1 l3 c0 c1 c2 c3 c4 z1 z3
        replace O1 := Lib.hid (O1.out.later hb'.out)
        replace O2 := Lib.hid (O2.out.later hb'.out)
        have zn : bn < wr.heap.size := Nat.lt_of_lt_of_le hbn BL.out.size
        have n2 := (hb'.out.cell (p := ⟨bn, j * 2 + 1, none⟩) zn).trans n1
        replace O3 := Lib.hid (O3.out.later hb'.out)
        replace BL := Lib.hid (BL.out.trans (hb'.out.mono BL.out.size))
        have l3 := O3.out.cell
        have f3 := O3.out.free
        have z3 := O3.out.lt
        clear hb' n1 zn cp0
        cases ib
        · have HG := Lib.hid (show N = trLow s inn (pl.take (k + 1)) by rw [HF2.out, if_neg (by rintro ⟨_, h⟩; cases h)])
          go_wp2_with fail
          go_roundw
          case rel => exact ⟨k + 1, N, by omega, by go_num, HG, O1, O2, O3, BL⟩
          case measure => simp [intOf]; omega
        · have HG := Lib.hid (show (j + 1, lv + 1) = trLow s inn (pl.take (k + 1)) by rw [HF2.out, if_pos ⟨hle, rfl⟩])
          have O3' := (O3.out.set 0 (.int .i64 ((j + 1 : Nat) : Int))).set 1 (.int .i64 ((lv + 1 : Nat) : Int))
          have B3' := (BL.out.setCell (by show _ ≤ w.heap.size + 2; omega) (.int .i64 ((j + 1 : Nat) : Int)) (p := ⟨w.heap.size + 2, 0, none⟩)).setCell (by show _ ≤ w.heap.size + 2; omega) (.int .i64 ((lv + 1 : Nat) : Int)) (p := ⟨w.heap.size + 2, 1, none⟩)
          have O1' := (O1.out.setFar ⟨w.heap.size + 2, 0, none⟩ (.int .i64 ((j + 1 : Nat) : Int)) (by show _ ≠ w.heap.size + 2; omega)).setFar ⟨w.heap.size + 2, 1, none⟩ (.int .i64 ((lv + 1 : Nat) : Int)) (by show _ ≠ w.heap.size + 2; omega)
          have O2' := (O2.out.setFar ⟨w.heap.size + 2, 0, none⟩ (.int .i64 ((j + 1 : Nat) : Int)) (by show _ ≠ w.heap.size + 2; omega)).setFar ⟨w.heap.size + 2, 1, none⟩ (.int .i64 ((lv + 1 : Nat) : Int)) (by show _ ≠ w.heap.size + 2; omega)
          have HO := Lib.hid (And.intro O1' (And.intro O2' (And.intro O3' B3')))
          clear O1' O2' O3' B3'
          go_wp2_with fail
          go_roundw
          case rel => exact ⟨k + 1, (j + 1, lv + 1), by omega, by go_num, HG, Lib.hid HO.out.1, Lib.hid HO.out.2.1, Lib.hid HO.out.2.2.1, Lib.hid HO.out.2.2.2⟩
          case measure => simp [intOf]; omega
      · have hle1 : ¬ ((N.2 : Nat) : Int) ≤ (lv : Int) := by omega
        go_wp2_with fail
        refine wp_region_quiet_below (by kernel_rfl) (by kernel_rfl) ?_
        repeat (first | go_big_quiet_step ((with_reducible exact (m3 _ _).out)) | quiet_step (with_reducible exact (m3 _ _).out))
        refine wpQuiet_nil ?_
        intro w7 hw'
        have hb' := Lib.hid (regrown_below hw')
        clear hw' m3 r0 r1 r2 r3 r4 r5 LA LB l1 l3 c0 c1 c2 c3 c4 z1 z3
        replace O1 := Lib.hid (O1.out.later hb'.out)
        replace O2 := Lib.hid (O2.out.later hb'.out)
        replace O3 := Lib.hid (O3.out.later hb'.out)
        replace BL := Lib.hid (BL.out.trans (hb'.out.mono BL.out.size))
        clear hb' n1 cp0
        have HG := Lib.hid (show N = trLow s inn (pl.take (k + 1)) by rw [HF2.out, if_neg (fun h => hle h.1)])
        go_wp2_with fail
        go_roundw
        case rel => exact ⟨k + 1, N, by omega, by go_num, HG, O1, O2, O3, BL⟩
        case measure => simp [intOf]; omega
    · have HB := Lib.hid (show N = trLow s inn pl by rw [HF.out, List.take_of_length_le (by rw [HM.out]; omega)])
      have e : k = m := by omega
      clear HF
      have l3 := O3.out.cell
      have f2 := O2.out.free
      have l2 := O2.out.cell
      have z2 := O2.out.lt
      have z3 := O3.out.lt
      have O2' := (O2.out.set 0 (.int .i64 ((N.1 : Nat) : Int))).set 1 (.int .i64 ((N.2 : Nat) : Int))
      have B3' := (BL.out.setCell (by show _ ≤ w.heap.size + 1; omega) (.int .i64 ((N.1 : Nat) : Int)) (p := ⟨w.heap.size + 1, 0, none⟩)).setCell (by show _ ≤ w.heap.size + 1; omega) (.int .i64 ((N.2 : Nat) : Int)) (p := ⟨w.heap.size + 1, 1, none⟩)
      have HO := Lib.hid (And.intro O2' B3')
      clear O2' B3'
      go_wp2_with fail
      have lf := HO.out.1.cell
      refine bodyPost_ret (v := .agg (ndV N)) (by simp [results, Try.results14, go_sem, lf]) rfl ⟨by rw [HB.out], HO.out.2⟩
end Go.Proofs.Ytechmejmlelmmaa
