/- Joined: SrvQ, SrvW. -/
import Derived.Test.YthbjgfennclidaaGreatJ39
import Derived.Test.YthbjgfennclidaaGreatJ35
import Derived.Test.YthbjgfennclidaaGreatJ32
import Derived.Test.YthbjgfennclidaaGreatJ12
import Derived.Test.YthbjgfennclidaaGreatJ37
import Derived.Test.YthbjgfennclidaaGreatJ28
/- What the laws of layer 12 ask: All, the example. Walked. -/
namespace Go.Proofs.YthbjgfennclidaaGreat
set_option linter.unusedVariables false
set_option linter.unusedSimpArgs false
set_option maxRecDepth 100000
open Go Go.RowKit
def MgOk (m : Mg) : Prop := Pr.same m.f m.f = true ∧ (∀ e ∈ m.l, sameT e.x e.x = true) ∧ m.l.length ≤ 100000 ∧ m.has.length ≤ 100000
def QRel (n : Nat) (w : World) (iv : Value) (wr : World) : Prop := ∃ k : Nat, k ≤ n ∧ iv = .int .i64 k ∧ Hid (Below w.heap.size w wr)
set_option maxRecDepth 100000 in
set_option maxHeartbeats 8000000 in
theorem all12_calls (l : List Mg) (LA LB : List Mv) (va vb : Value) (w : World) (hA : MsW w l LA va) (hB : MsW w l LB vb) (hP : ∀ m ∈ l, MgOk m) :
    Calls Tryz.prog 16 #[va, vb] w fun e w' => e = .returned (.int .i64 1) ∧ Below w.heap.size w w' := by
  have hla : LA.length = l.length := by rw [← hA.e, List.length_map]
  have hlb : LB.length = l.length := by rw [← hB.e, List.length_map]
  obtain ⟨oa1, cap1, b1, o1, e1, g1⟩ := hA.r
  obtain ⟨oa2, cap2, b2, o2, e2, g2⟩ := hB.r
  rw [hla] at e1
  rw [hlb] at e2
  subst e1 e2
  have H1 := Lib.hid g1
  have H2 := Lib.hid g2
  have c1 := g1.len
  have c2 := g1.max
  have c3 := g2.len
  rw [hla] at c1
  rw [hlb] at c3
  unfold maxLen at c2
  have HA := Lib.hid hA
  have HB := Lib.hid hB
  have HP := Lib.hid hP
  have HLA := Lib.hid hla
  have HLB := Lib.hid hlb
  clear g1 g2 hA hB hP hla hlb
  generalize hn : l.length = n at *
  have HN := Lib.hid hn
  clear hn
  go_enter Tryz.func16, Tryz.ntmps16
  go_wp2_with fail
  go_loopw [5] (fun iv wr => QRel n w iv wr) (fun iv _ => n - (intOf iv).toNat)
  case atStart => exact ⟨0, Nat.zero_le _, rfl, Lib.hid (Below.refl _ _)⟩
  case round =>
    obtain ⟨k, hk, rfl, BEL⟩ := hrel
    by_cases hlt : k < n
    · obtain ⟨x, hx⟩ : ∃ x, LA[k]? = some x := ⟨_, List.getElem?_eq_getElem (by rw [HLA.out]; exact hlt)⟩
      obtain ⟨y, hy⟩ : ∃ y, LB[k]? = some y := ⟨_, List.getElem?_eq_getElem (by rw [HLB.out]; exact hlt)⟩
      have hm1 : l[k]? = some x.m := by rw [← HA.out.e, List.getElem?_map, hx]; rfl
      have hm2 : l[k]? = some y.m := by rw [← HB.out.e, List.getElem?_map, hy]; rfl
      have exy : x.m = y.m := Option.some.inj (hm1.symm.trans hm2)
      have HOK := Lib.hid (HP.out x.m (List.mem_of_getElem? hm1))
      have HM1 := Lib.hid (HA.out.w x (List.mem_of_getElem? hx))
      have HM2 := Lib.hid (HB.out.w y (List.mem_of_getElem? hy))
      obtain ⟨rfl, hb1⟩ := H1.out.at0 (by rw [HLA.out]; omega)
      obtain ⟨rfl, hb2⟩ := H2.out.at0 (by rw [HLB.out]; omega)
      have HX1 := Lib.hid hx
      have HX2 := Lib.hid hy
      clear hx hy hm1 hm2
      obtain ⟨m, f1, k1, h1, l1⟩ := x
      obtain ⟨m', f2, k2, h2, l2⟩ := y
      dsimp only at exy HOK HM1 HM2
      subst exy
      have q0 : (0 : Int) ≤ (k : Int) := by omega
      have q1 : (k : Int) < (n : Int) := by omega
      have q2 : (k : Int) + 1 ≤ 9223372036854775807 := by omega
      go_wp2_with fail
      refine monoN_start (T := fun _ => False) (D := fun _ => false) (by kernel_rfl) (fun wd hbd => ?_)
      replace BEL := Lib.hid (BEL.out.trans (Below.mono hbd BEL.out.size))
      clear hbd
      refine monoN_stay (i := 0) (v := ?_) rfl (by kernel_rfl) (by kernel_rfl) (by kernel_rfl) (fun _ _ _ h => h) (Or.inl ⟨by rfl, ?_⟩) ?_
      rotate_left 1
      · (intro wL hL; go_simp; try with_reducible rfl)
      try simp only [Act.put, List.getElem_toArray, List.getElem_cons_zero, List.getElem_cons_succ, List.setIfInBounds_toArray, List.set_cons_zero, List.set_cons_succ]
      refine monoN_stay (i := 1) (v := ?_) rfl (by kernel_rfl) (by kernel_rfl) (by kernel_rfl) (fun _ _ _ h => h) (Or.inl ⟨by rfl, ?_⟩) ?_
      rotate_left 1
      · (intro wL hL; go_simp; try with_reducible rfl)
      try simp only [Act.put, List.getElem_toArray, List.getElem_cons_zero, List.getElem_cons_succ, List.setIfInBounds_toArray, List.set_cons_zero, List.set_cons_succ]
      refine monoN_stay (i := 2) (v := ?_) rfl (by kernel_rfl) (by kernel_rfl) (by kernel_rfl) (fun _ _ _ h => h) (Or.inl ⟨by rfl, ?_⟩) ?_
      rotate_left 1
      · (intro wL hL; go_simp; try with_reducible rfl)
      try simp only [Act.put, List.getElem_toArray, List.getElem_cons_zero, List.getElem_cons_succ, List.setIfInBounds_toArray, List.set_cons_zero, List.set_cons_succ]
      refine monoN_stay (i := 3) (v := .agg (mgA m f1 k1 h1 l1)) rfl (by kernel_rfl) (by kernel_rfl) (by kernel_rfl) (fun _ _ _ h => h) (Or.inl ⟨by rfl, fun wL hL => exec_load_mid 47 _ rfl (b1) (o1 + k * 23) (by rfl) ((mgA m f1 k1 h1 l1) : Array Value).toList _ (fun j u hu => (hL.cell (Nat.lt_of_lt_of_le hb1 BEL.out.size) (fun h => h)).trans ((BEL.out.cell (p := ⟨b1, o1 + k * 23 + j, none⟩) hb1).trans (H1.out.cell k _ HX1.out j u hu))) Tryz.underlying47 (by rfl) (by kernel_rfl)⟩) ?_
      try simp only [Act.put, List.getElem_toArray, List.getElem_cons_zero, List.getElem_cons_succ, List.setIfInBounds_toArray, List.set_cons_zero, List.set_cons_succ]
      refine monoN_stay (i := 4) (v := ?_) rfl (by kernel_rfl) (by kernel_rfl) (by kernel_rfl) (fun _ _ _ h => h) (Or.inl ⟨by rfl, ?_⟩) ?_
      rotate_left 1
      · (intro wL hL; go_simp; try with_reducible rfl)
      try simp only [Act.put, List.getElem_toArray, List.getElem_cons_zero, List.getElem_cons_succ, List.setIfInBounds_toArray, List.set_cons_zero, List.set_cons_succ]
      refine monoN_stay (i := 5) (v := ?_) rfl (by kernel_rfl) (by kernel_rfl) (by kernel_rfl) (fun _ _ _ h => h) (Or.inl ⟨by rfl, ?_⟩) ?_
      rotate_left 1
      · (intro wL hL; go_simp; try with_reducible rfl)
      try simp only [Act.put, List.getElem_toArray, List.getElem_cons_zero, List.getElem_cons_succ, List.setIfInBounds_toArray, List.set_cons_zero, List.set_cons_succ]
      refine monoN_stay (i := 6) (v := ?_) rfl (by kernel_rfl) (by kernel_rfl) (by kernel_rfl) (fun _ _ _ h => h) (Or.inl ⟨by rfl, ?_⟩) ?_
      rotate_left 1
      · (intro wL hL; go_simp; try with_reducible rfl)
      try simp only [Act.put, List.getElem_toArray, List.getElem_cons_zero, List.getElem_cons_succ, List.setIfInBounds_toArray, List.set_cons_zero, List.set_cons_succ]
      refine monoN_stay (i := 7) (v := .agg (mgA m f2 k2 h2 l2)) rfl (by kernel_rfl) (by kernel_rfl) (by kernel_rfl) (fun _ _ _ h => h) (Or.inl ⟨by rfl, fun wL hL => exec_load_mid 47 _ rfl (b2) (o2 + k * 23) (by rfl) ((mgA m f2 k2 h2 l2) : Array Value).toList _ (fun j u hu => (hL.cell (Nat.lt_of_lt_of_le hb2 BEL.out.size) (fun h => h)).trans ((BEL.out.cell (p := ⟨b2, o2 + k * 23 + j, none⟩) hb2).trans (H2.out.cell k _ HX2.out j u hu))) Tryz.underlying47 (by rfl) (by kernel_rfl)⟩) ?_
      try simp only [Act.put, List.getElem_toArray, List.getElem_cons_zero, List.getElem_cons_succ, List.setIfInBounds_toArray, List.set_cons_zero, List.set_cons_succ]
      refine monoN_r1 (i := 8) (by kernel_rfl) ?_
      refine stepN_call (by rfl) (by rfl) (fun K hK => ?_)
      try simp only [List.getElem_toArray, List.getElem_cons_zero, List.getElem_cons_succ]
      (go_simp; go_at_call 36; refine (refMsg_same m f1 k1 h1 l1 f2 k2 h2 l2 _ (HM1.out.later BEL.out) (HM2.out.later BEL.out) HOK.out.1 HOK.out.2.1 HOK.out.2.2.1 HOK.out.2.2.2).mono ?_; rintro e wc ⟨rfl, hb⟩)
      try go_wp2_with fail
      refine hK.out _ _ (fun _ => hb) (But.of hb) ?_
      clear hK K
      replace BEL := Lib.hid (BEL.out.trans (Below.mono hb BEL.out.size))
      clear hb
      try simp only [Act.put, List.getElem_toArray, List.getElem_cons_zero, List.getElem_cons_succ, List.setIfInBounds_toArray, List.set_cons_zero, List.set_cons_succ]
      refine monoN_stay (i := 9) (v := ?_) rfl (by kernel_rfl) (by kernel_rfl) (by kernel_rfl) (fun _ _ _ h => h) (Or.inl ⟨by rfl, ?_⟩) ?_
      rotate_left 1
      · (intro wL hL; go_simp; try with_reducible rfl)
      try simp only [Act.put, List.getElem_toArray, List.getElem_cons_zero, List.getElem_cons_succ, List.setIfInBounds_toArray, List.set_cons_zero, List.set_cons_succ]
      refine monoN_done (by kernel_rfl) ?_ _
      go_wp2_with fail
      go_roundw
      case rel => exact ⟨k + 1, by omega, by go_num, BEL⟩
      case measure => simp [intOf] <;> omega
    · go_wp2_with fail
      go_ret
      exact ⟨rfl, BEL.out⟩
/-! ### The example -/
abbrev sU : St := ⟨2, Pr.starP, [], [], noK, 0, 0, 0⟩
abbrev mU : Mg := ⟨1, 1, 2, 3, 0, Pr.starP, noK, [], 0, [], false⟩
theorem mU_may : mayM mU = true := by decide +kernel
theorem ansU : ∃ d : Mg, ansM sU mU 9 = [d] ∧ d.kind = 3 ∧ d.n = 0 ∧ d.frm = 2 ∧ d.dst = 1 ∧ d.sid = 3 ∧ d.turn = 9 := by
  refine ⟨doneM sU mU 9 (allI sU) (manyE (ansE sU mU)), ?_, rfl, ?_, rfl, rfl, rfl, rfl⟩
  · unfold ansM
    rw [if_pos ⟨mU_may, rfl⟩]
    rfl
  · rfl
theorem riseU : RiseI [] := by unfold RiseI Rise; simp
set_option maxRecDepth 100000 in
set_option maxHeartbeats 8000000 in
theorem up12_calls (w : World) : Calls Tryz.prog 8 #[] w fun e w' => e = .returned (.bool true) ∧ Below w.heap.size w w' := by
  have CA := fun w' => Lib.hid (srvAnswer_calls sU mU 9 nilV nilV nilV nilV nilV nilV nilV nilV w' ⟨lies_leaf _ _ _ _ _ (by decide), (OwnI.nil w' 0).row (by simp), (OwnI.nil w' 0).row (by simp), frW_nil' w'⟩ ⟨lies_leaf _ _ _ _ _ (by decide), frW_nil' w', has_nil w', GRow.nil⟩ riseU riseU (by decide) (by decide) (by decide) (by decide) (by decide) (by decide) (by decide) (by decide))
  have CM := fun w' => Lib.hid (srvMay_calls mU nilV nilV nilV nilV w' ⟨lies_leaf _ _ _ _ _ (by decide), frW_nil' w', has_nil w', GRow.nil⟩ (by decide))
  rw [mU_may] at CM
  obtain ⟨d, ed, d0, d8, d1, d2, d3, d4⟩ := ansU
  rw [ed] at CA
  clear ed
  have O1 := Lib.hid (Own.new w #[.int .i64 1, .string ⟨#[]⟩, .int .i64 0, .complex .f64 0 0, .slice none 0 0] 44)
  have B1 := Lib.hid ((Below.refl w.heap.size w).alloc (Nat.le_refl _) (.cells #[.int .i64 1, .string ⟨#[]⟩, .int .i64 0, .complex .f64 0 0, .slice none 0 0] 44))
  go_enter Tryz.func8, Tryz.ntmps8
  go_upto_region 2 with fail
  revert O1 B1
  generalize w.alloc (.cells #[.int .i64 1, .string ⟨#[]⟩, .int .i64 0, .complex .f64 0 0, .slice none 0 0] 44) = W1
  intro O1 B1
  have l1 := O1.out.cell
  have z1 := O1.out.lt
  have O8 := Lib.hid (Own.new W1 mgZ 47)
  go_upto_region 3 with (refine wpList_store_mid (by rfl) 47 _ _ (by rfl) W1.heap.size 0 (mgA mU nilV nilV nilV nilV) (by rfl) (by rfl) (O8.out.there (by rfl)) (by kernel_rfl) (by simp [Value.oneCell']) ?_)
  have HB : Hid (Later W1 (World.setCells (W1.alloc (.cells mgZ 47)) W1.heap.size 0 (mgA mU nilV nilV nilV nilV).toList)) := Lib.hid (below_sets (Nat.le_refl _) _ _ ((Below.refl _ _).alloc (Nat.le_refl _) _))
  have OT := Lib.hid (O8.out.sets (mgA mU nilV nilV nilV nilV).toList (by rfl))
  clear O8 l1 z1
  revert HB OT
  generalize World.setCells _ _ _ _ = W5
  intro HB OT
  have z3 : w.heap.size < W1.heap.size := O1.out.lt
  replace O1 := Lib.hid (O1.out.later HB.out)
  replace B1 := Lib.hid (B1.out.trans (HB.out.mono B1.out.size))
  clear HB
  generalize W1.heap.size = bt at *
  have l1 := O1.out.cell
  have z1 := O1.out.lt
  simp only [Act.put]
  go_upto_region 4 with (first | (refine wpList_load_mid (by rfl) 47 _ (by rfl) bt 0 (by rfl) (mgA mU nilV nilV nilV nilV).toList _ (OT.out.part 0 _ (by rfl)) Tryz.underlying47 (by rfl) (by kernel_rfl) ?_) | (go_at_call 17; refine (CA _).out.mono ?_; rintro e w2 ⟨v2, L, rfl, hM, hb⟩; have HMS := Lib.hid hM; clear hM l1 z1; replace OT := Lib.hid (OT.out.later hb); replace B1 := Lib.hid (B1.out.trans (hb.mono B1.out.size)); clear hb))
  obtain ⟨x, ex⟩ : ∃ x, L = [x] := by
    have := HMS.out.e
    match L, this with
    | [x], _ => exact ⟨x, rfl⟩
  subst ex
  have hxm : x.m = d := by have := HMS.out.e; simpa using this
  obtain ⟨oa, cap, b, o, e2, hg⟩ := HMS.out.r
  subst e2
  obtain ⟨rfl, hb0⟩ := hg.at0 (by simp)
  have hc0 := hg.len
  have hc1 := hg.max
  unfold maxLen at hc1
  have k0 := hg.cell 0 x rfl 0 _ rfl
  have k1 := hg.cell 0 x rfl 1 _ rfl
  have k2 := hg.cell 0 x rfl 2 _ rfl
  have k3 := hg.cell 0 x rfl 3 _ rfl
  have k4 := hg.cell 0 x rfl 4 _ rfl
  have k20 := hg.cell 0 x rfl 20 _ rfl
  rw [hxm] at k0 k1 k2 k3 k4 k20
  rw [d0] at k0
  rw [d1] at k1
  rw [d2] at k2
  rw [d3] at k3
  rw [d4] at k4
  rw [d8] at k20
  simp only [Nat.zero_mul, Nat.add_zero, List.length_singleton] at k0 k1 k2 k3 k4 k20 hc0 ⊢
  have K := Lib.hid (And.intro k0 (And.intro k1 (And.intro k2 (And.intro k3 (And.intro k4 k20)))))
  clear k0 k1 k2 k3 k4 k20 hg hxm d0 d1 d2 d3 d4 d8
  go_wp2_with (first | (refine wpList_load_mid (by rfl) 47 _ (by rfl) bt 0 (by rfl) (mgA mU nilV nilV nilV nilV).toList _ (OT.out.part 0 _ (by rfl)) Tryz.underlying47 (by rfl) (by kernel_rfl) ?_) | (go_at_call 12; refine (CM _).out.mono ?_; rintro e w3 ⟨rfl, hb⟩; have BB := Lib.hid (B1.out.trans (hb.mono B1.out.size)); have k0 := (hb.cell (p := ⟨b, o, none⟩) hb0).trans K.out.1; have k1 := (hb.cell (p := ⟨b, o + 1, none⟩) hb0).trans K.out.2.1; have k2 := (hb.cell (p := ⟨b, o + 2, none⟩) hb0).trans K.out.2.2.1; have k3 := (hb.cell (p := ⟨b, o + 3, none⟩) hb0).trans K.out.2.2.2.1; have k4 := (hb.cell (p := ⟨b, o + 4, none⟩) hb0).trans K.out.2.2.2.2.1; have k5 := (hb.cell (p := ⟨b, o + 20, none⟩) hb0).trans K.out.2.2.2.2.2; clear hb))
  go_ret
  exact ⟨rfl, BB.out⟩
end Go.Proofs.YthbjgfennclidaaGreat
/- What is answered is the same as itself. No walk. -/
namespace Go.Proofs.YthbjgfennclidaaGreat
set_option linter.unusedVariables false
set_option linter.unusedSimpArgs false
set_option maxRecDepth 100000
open Go Go.RowKit
theorem noP_same : Pr.same noP noP = true := by decide +kernel
theorem all_real {s : St} (h : Good s) : ∀ i ∈ allI s, sameT i i = true := by
  intro i hi
  unfold allI at hi
  rcases both_mem s.out hi with h1 | h1
  · have := (mayLB_iff.1 h.st).1 i h1
    exact sameT_real (mayT_feq this).1 (mayT_feq this).2
  · have := (mayLB_iff.1 h.ou).1 i h1
    exact sameT_real (mayT_feq this).1 (mayT_feq this).2
theorem gone_same (h : Itm) (r c : Int) : sameT (goneE h r c).x (goneE h r c).x = true := sameT_real (by show feq 0 0 = true; decide) (by show feq 0 0 = true; decide)
theorem ansE_same {s : St} (h : Good s) (m : Mg) : ∀ e ∈ ansE s m, sameT e.x e.x = true := by
  intro e he
  unfold ansE lacksE leavesE at he
  rcases List.mem_append.1 he with he | he
  · obtain ⟨x, hx, rfl⟩ := List.mem_map.1 he
    exact all_real h x (List.mem_filter.1 hx).1
  · obtain ⟨x, hx, rfl⟩ := List.mem_map.1 he
    exact gone_same _ _ _
theorem ans_ok {s : St} (h : Good s) (m : Mg) (turn : Int) (hh : m.has.length ≤ 1000) : ∀ x ∈ ansM s m turn, MgOk x := by
  intro x hx
  unfold ansM at hx
  split at hx
  · rcases List.mem_append.1 hx with hx | hx
    · unfold batsM at hx
      obtain ⟨i, _, rfl⟩ := List.mem_map.1 hx
      refine ⟨noP_same, fun e he => ansE_same h m e ?_, ?_, Nat.zero_le _⟩
      · unfold batM cutE at he
        exact List.mem_of_mem_drop (List.mem_of_mem_take he)
      · unfold batM cutE
        rw [List.length_take]; omega
    · have : x = doneM s m turn (allI s) (manyE (ansE s m)) := by simpa using hx
      subst this
      cases hi : Pr.inB m.f s.f
      · rw [done_no hi]
        exact ⟨noP_same, fun e he => absurd (show e ∈ ([] : List En) from he) List.not_mem_nil, Nat.zero_le _, Nat.zero_le _⟩
      · rw [done_yes hi]
        refine ⟨noP_same, fun e he => ?_, ?_, Nat.zero_le _⟩
        · unfold endM lostE at he
          obtain ⟨y, hy, rfl⟩ := List.mem_map.1 he
          exact gone_same _ _ _
        · unfold endM lostE
          have := filter_len m.has (lostB s (allI s)) (fun h => goneE h 0 0)
          show (List.map _ _).length ≤ _
          omega
  · cases hx
theorem StW.blocksS {w w2 : World} {s : St} {fv sv ov kv : Value} (h : StW w s fv sv ov kv) (hz : w.heap.size ≤ w2.heap.size) (hb : ∀ k, k < w.heap.size → w2.heap[k]? = w.heap[k]?) : StW w2 s fv sv ov kv := by
  have hc : ∀ b o, b < w.heap.size → w2.cell? ⟨b, o, none⟩ = w.cell? ⟨b, o, none⟩ := fun b o h => World.cell?_of_block (hb b h)
  refine ⟨h.lf.mono (fun b o hS => hc b o hS) (fun b hS => Nat.lt_of_lt_of_le hS hz), ?_, ?_, ?_⟩
  · obtain ⟨oa, cap, b, o, e, h⟩ := h.ls
    exact ⟨oa, cap, b, o, e, ⟨h.len, h.max, fun h0 => ⟨(h.at0 h0).1, Nat.lt_of_lt_of_le (h.at0 h0).2 hz⟩, fun k i hk j u hu => by
      rw [hc b _ (h.at0 (by have := some_posI hk; omega)).2]; exact h.cell k i hk j u hu, h.ok⟩⟩
  · obtain ⟨oa, cap, b, o, e, h⟩ := h.lo
    exact ⟨oa, cap, b, o, e, ⟨h.len, h.max, fun h0 => ⟨(h.at0 h0).1, Nat.lt_of_lt_of_le (h.at0 h0).2 hz⟩, fun k i hk j u hu => by
      rw [hc b _ (h.at0 (by have := some_posI hk; omega)).2]; exact h.cell k i hk j u hu, h.ok⟩⟩
  · obtain ⟨U, oa, cap, b, o, e, h⟩ := h.lk
    refine ⟨U, oa, cap, b, o, e, ⟨h.len, h.max, fun h0 => ⟨(h.at0 h0).1, Nat.lt_of_lt_of_le (h.at0 h0).2 hz⟩, fun k i hk j u hu => by
      rw [hc b _ (h.at0 (by have := some_posI hk; omega)).2]; exact h.cell k i hk j u hu, fun k f hk => ?_⟩⟩
    obtain ⟨oa, cap, b, o, e, h⟩ := h.ids k f hk
    exact ⟨oa, cap, b, o, e, ⟨h.len, h.max, fun h0 => ⟨(h.at0 h0).1, Nat.lt_of_lt_of_le (h.at0 h0).2 hz⟩, fun k s hk => by
      rw [hc b _ (h.at0 (by have := some_posI hk; omega)).2]; exact h.cell k s hk, h.ok⟩⟩
theorem sureF {w : World} {s : St} {fv sv ov kv : Value} (h : StW w s fv sv ov kv) : Sure (fun _ => False) w fun w => StW w s fv sv ov kv := fun _ h2 =>
  h.blocksS h2.size fun k hk => h2.blk k hk (fun h => h)
theorem short_is {m : Mg} (h : shortI m = 1) : m.has.length ≤ 60 ∧ m.l.length ≤ 60 ∧ m.f.size ≤ 60 ∧ m.k.l.length ≤ 5000 ∧ (flatI m.k.l).length ≤ 5000 := by
  unfold shortI smallI knownI at h
  split at h
  · cases h
  · rename_i h1
    split at h
    · split at h
      · rename_i h2 h3
        have := known_flat h3
        exact ⟨by omega, by omega, h2, by omega, by omega⟩
      · cases h
    · split at h <;> cases h
theorem short_or (m : Mg) : shortI m = 0 ∨ shortI m = 1 := by
  unfold shortI smallI knownI
  split
  · exact .inl rfl
  · split <;> split <;> simp
end Go.Proofs.YthbjgfennclidaaGreat
