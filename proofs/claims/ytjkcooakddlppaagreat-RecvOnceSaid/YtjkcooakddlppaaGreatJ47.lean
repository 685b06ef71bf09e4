/- Joined: RecvOnce. -/
import Derived.Test.YtjkcooakddlppaaGreatJ46
import Derived.Test.YtjkcooakddlppaaGreatJ40
import Derived.Test.YtjkcooakddlppaaGreatJ45
/- RecvOnce: the law's walk. -/
namespace Go.Proofs.YtjkcooakddlppaaGreat
set_option linter.unusedVariables false
set_option linter.unusedSimpArgs false
set_option maxRecDepth 100000
open Go Go.RowKit
theorem fits_small {s : St} (h : fitsI s = 1) : s.f.size ≤ 60 ∧ s.store.length ≤ 60 ∧ s.out.length ≤ 60 ∧ s.k.l.length ≤ 60 ∧ (flatI s.k.l).length ≤ 3600 := by
  unfold fitsI smallI knownI at h
  split at h
  · cases h
  · rename_i h1
    split at h
    · split at h
      · rename_i h2 h3
        unfold knownB at h3
        rw [Bool.and_eq_true, decide_eq_true_eq, List.all_eq_true] at h3
        have hk := flat_le h3.2
        have h4 := h3.1
        exact ⟨h2, by omega, by omega, by omega, by omega⟩
      · cases h
    · split at h <;> cases h
theorem small_recv {s : St} {x : Itm} (h : Good s) {n : Nat} (h1 : (flatI s.k.l).length ≤ n) (h2 : s.k.l.length ≤ n) : (flatI (recvS s x).k.l).length ≤ n + 1 ∧ (recvS s x).k.l.length ≤ n + 1 := by
  have := recv_flat (x := x) h; omega
theorem small_goes {s : St} {id : ByteArray} {r c r2 q2 : Int} (h : Good s) {n : Nat} (h1 : (flatI s.k.l).length ≤ n) (h2 : s.k.l.length ≤ n) : (flatI (goesS s id r c r2 q2).k.l).length ≤ n + 1 ∧ (goesS s id r c r2 q2).k.l.length ≤ n + 1 := by
  have := goes_flat (id := id) (r := r) (c := c) (r2 := r2) (q2 := q2) h; omega
theorem mayB_size' {p : Pr} (h : p.mayB = true) : p.size ≤ 30 := by
  unfold Pr.mayB Pr.fitsB at h
  simp only [Bool.and_eq_true, decide_eq_true_eq] at h
  omega
theorem good_stb {s : St} (h : Good s) (h1 : (flatI s.k.l).length ≤ 5000) (h2 : s.k.l.length ≤ 5000) : StB s :=
  ⟨Nat.le_trans (mayB_size' h.f) (by decide), by have := h.n; omega, by have := h.n; omega, h2, h1⟩
theorem stands_ok {s : St} (h : Good s) (hs : ∀ i ∈ s.store, i.id.size ≤ maxLen ∧ i.kd.size ≤ maxLen) (ho : ∀ i ∈ s.out, i.id.size ≤ maxLen ∧ i.kd.size ≤ maxLen) (id : ByteArray) : (standsS s id).1.id.size ≤ maxLen ∧ (standsS s id).1.kd.size ≤ maxLen := by
  rcases stands_or h id with ⟨i, hi, _, hq⟩ | ⟨i, hi, _, hq⟩ | ⟨_, _, hq⟩
  · rw [hq]; exact hs i hi
  · rw [hq]; exact ho i hi
  · rw [hq]; exact ⟨by decide, by decide⟩
theorem errI_not {E : Int} (h : E ≠ 0) (h0 : 0 ≤ E) : errI E = .iface 90 (.int .i64 E) := by
  unfold errI errV
  rw [if_neg (by omega), Int.toNat_of_nonneg h0]
set_option maxRecDepth 100000 in
set_option maxHeartbeats 16000000 in
theorem recvOnce_calls (s : St) (fv sv ov kv : Value) (z : Itm) (id : ByteArray) (r2 q2 : Int) (w : World) (hS : SiW w s fv sv ov kv) (hz : z.id.size ≤ maxLen ∧ z.kd.size ≤ maxLen) (hid : id.size ≤ maxLen) :
    Calls Tryz.prog 5 #[siV s fv sv ov kv, rV z, vV r2 q2, .string id] w fun e w' => e = .returned (.bool true) ∧ Below w.heap.size w w' := by
  have OA := Lib.hid (((Own.new w (siL s fv sv ov kv).toArray 33).alloc (.cells (rA z) 35)).alloc (.cells (vA r2 q2) 37))
  have OR := Lib.hid ((Own.newAt (w.alloc (.cells (siL s fv sv ov kv).toArray 33)) (rA z) 35 (b := w.heap.size + 1) (by simp)).alloc (.cells (vA r2 q2) 37))
  have O6 := Lib.hid (Own.newAt ((w.alloc (.cells (siL s fv sv ov kv).toArray 33)).alloc (.cells (rA z) 35)) (vA r2 q2) 37 (b := w.heap.size + 2) (by simp))
  have BEL := Lib.hid ((((Below.refl w.heap.size w).alloc (Nat.le_refl _) (.cells (siL s fv sv ov kv).toArray 33)).alloc (by simp) (.cells (rA z) 35)).alloc (by simp; omega) (.cells (vA r2 q2) 37))
  have HS := Lib.hid hS
  clear hS
  have CU := fun w' => Lib.hid (up10_calls w')
  have CF := fun w' h => Lib.hid (fitsS_calls s fv sv ov kv w' h)
  have hff : fitsI s = 0 ∨ fitsI s = 1 := by
    unfold fitsI smallI knownI
    split
    · exact .inl rfl
    · split <;> split <;> simp
  have HB := Lib.hid (fun h => fits_is (s := s) h)
  have HSM := Lib.hid (fun h => fits_small (s := s) h)
  generalize fitsI s = ft at *
  go_enter Tryz.func5, Tryz.ntmps5
  go_upto_region 1 with fail
  revert OA
  revert OR
  revert O6
  revert BEL
  generalize World.alloc (World.alloc (World.alloc _ _) _) _ = W0
  intro BEL O6 OR OA
  try simp only [Act.put]
  rcases hff with rfl | rfl
  · go_wp2_with (first
    | (go_at_call 6; refine (CU _).out.mono ?_; rintro e wy ⟨rfl, hb⟩; replace OA := Lib.hid (OA.out.later hb); replace OR := Lib.hid (OR.out.later hb); replace O6 := Lib.hid (O6.out.later hb); replace BEL := Lib.hid (BEL.out.trans (Below.mono hb BEL.out.size)); clear hb)
    | (refine wpList_load_mid (by rfl) 33 _ (by rfl) w.heap.size 0 (by rfl) (siL s fv sv ov kv) _ (by exact OA.out.part 0 _ (by rfl)) Tryz.underlying33 (by rfl) (by kernel_rfl) ?_)
    | (go_at_call 7; refine (CF _ (HS.out.later BEL.out)).out.mono ?_; rintro e wy ⟨rfl, hb⟩; replace OA := Lib.hid (OA.out.later hb); replace OR := Lib.hid (OR.out.later hb); replace O6 := Lib.hid (O6.out.later hb); replace BEL := Lib.hid (BEL.out.trans (Below.mono hb BEL.out.size)); clear hb)
    | fail)
    go_ret
    exact ⟨rfl, BEL.out⟩
  replace HB := Lib.hid (HB.out (by first | trivial | rfl))
  replace HSM := Lib.hid (HSM.out (by first | trivial | rfl))
  have CS := fun w' h => Lib.hid (state_calls s fv sv ov kv w' h HB.out.f (Nat.le_trans HB.out.ls (by decide)) (Nat.le_trans HB.out.lo (by decide)))
  have CM1 := fun fx sx ox kx w' h => Lib.hid (localMay_calls s fx sx ox kx w' h HB.out)
  go_upto_region 4 with (first
    | (go_at_call 6; refine (CU _).out.mono ?_; rintro e wy ⟨rfl, hb⟩; replace OA := Lib.hid (OA.out.later hb); replace OR := Lib.hid (OR.out.later hb); replace O6 := Lib.hid (O6.out.later hb); replace BEL := Lib.hid (BEL.out.trans (Below.mono hb BEL.out.size)); clear hb)
    | (refine wpList_load_mid (by rfl) 33 _ (by rfl) w.heap.size 0 (by rfl) (siL s fv sv ov kv) _ (by exact OA.out.part 0 _ (by rfl)) Tryz.underlying33 (by rfl) (by kernel_rfl) ?_)
    | (go_at_call 7; refine (CF _ (HS.out.later BEL.out)).out.mono ?_; rintro e wy ⟨rfl, hb⟩; replace OA := Lib.hid (OA.out.later hb); replace OR := Lib.hid (OR.out.later hb); replace O6 := Lib.hid (O6.out.later hb); replace BEL := Lib.hid (BEL.out.trans (Below.mono hb BEL.out.size)); clear hb)
    | fail)
  clear CU CF
  go_upto_region 5 with (first
    | (refine wpList_load_mid (by rfl) 33 _ (by rfl) w.heap.size 0 (by rfl) (siL s fv sv ov kv) _ (by exact OA.out.part 0 _ (by rfl)) Tryz.underlying33 (by rfl) (by kernel_rfl) ?_)
    | (go_at_call 8; refine (CS _ (HS.out.later BEL.out)).out.mono ?_; rintro e w1 ⟨fx, sx, ox, rfl, hst, hb⟩; obtain ⟨⟨oa1, ca1, rfl⟩, ⟨ob1, cb1, rfl⟩, ⟨oc1, cc1, rfl⟩, ⟨od1, cd1, rfl⟩⟩ := hst.shape; replace OA := Lib.hid (OA.out.later hb); replace OR := Lib.hid (OR.out.later hb); replace O6 := Lib.hid (O6.out.later hb); replace BEL := Lib.hid (BEL.out.trans (Below.mono hb BEL.out.size)); have X1 := Lib.hid (hst); have O1 := Lib.hid (Own.new w1 stZ.toArray 46); clear hst hb)
    | (refine wpList_store_mid (by rfl) 46 _ _ (by rfl) w1.heap.size 0 (stA s (.slice oa1 s.f.kids.length ca1) (.slice ob1 s.store.length cb1) (.slice oc1 s.out.length cc1) (.slice od1 s.k.l.length cd1)) (by rfl) (by rfl) (O1.out.there (by rfl)) (by kernel_rfl) (by simp [Value.oneCell']) ?_; have HK := Lib.hid (And.intro (O1.out.sets (stA s (.slice oa1 s.f.kids.length ca1) (.slice ob1 s.store.length cb1) (.slice oc1 s.out.length cc1) (.slice od1 s.k.l.length cd1)).toList (by rfl)) (below_sets (B := w1.heap.size) (b := w1.heap.size) (Nat.le_refl _) (stA s (.slice oa1 s.f.kids.length ca1) (.slice ob1 s.store.length cb1) (.slice oc1 s.out.length cc1) (.slice od1 s.k.l.length cd1)).toList 0 ((Below.refl _ _).alloc (Nat.le_refl _) (.cells stZ.toArray 46)))); revert HK; generalize World.setCells _ _ _ _ = W1; intro HK; have hb := HK.out.2; replace O1 := Lib.hid HK.out.1; replace OA := Lib.hid (OA.out.later hb); replace OR := Lib.hid (OR.out.later hb); replace O6 := Lib.hid (O6.out.later hb); replace BEL := Lib.hid (BEL.out.trans (Below.mono hb BEL.out.size)); replace X1 := Lib.hid (X1.out.later hb); clear HK hb)
    | fail)
  clear CS
  have CIT := fun w' => Lib.hid (item_calls z.id z.r z.c z.st z.kd z.num z.x z.y z.d w')
  go_upto_region 6 with (first
    | (refine wpList_load_mid (by rfl) 35 _ (by rfl) (w.heap.size + 1) 0 (by rfl) (rc z) _ (by exact OR.out.part 0 _ (by rfl)) Tryz.underlying35 (by rfl) (by kernel_rfl) ?_)
    | (go_at_call 9; refine (CIT _).out.mono ?_; rintro e w3 ⟨rfl, hb⟩; replace OA := Lib.hid (OA.out.later hb); replace OR := Lib.hid (OR.out.later hb); replace O6 := Lib.hid (O6.out.later hb); replace O1 := Lib.hid (O1.out.later hb); replace X1 := Lib.hid (X1.out.later hb); replace BEL := Lib.hid (BEL.out.trans (Below.mono hb BEL.out.size)); clear hb)
    | fail)
  have O13 := Lib.hid (Own.new w3 (iA z) 49)
  have hb9 : Below w3.heap.size w3 (w3.alloc (.cells (iA z) 49)) := (Below.refl _ _).alloc (Nat.le_refl _) _
  replace OA := Lib.hid (OA.out.later hb9)
  replace OR := Lib.hid (OR.out.later hb9)
  replace O6 := Lib.hid (O6.out.later hb9)
  replace O1 := Lib.hid (O1.out.later hb9)
  replace X1 := Lib.hid (X1.out.later hb9)
  replace BEL := Lib.hid (BEL.out.trans (Below.mono hb9 BEL.out.size))
  clear hb9
  revert BEL
  revert OA
  revert OR
  revert O6
  revert O1
  revert X1
  revert O13
  generalize World.alloc _ _ = VO13
  generalize w3.heap.size = b13 at *
  intro O13 X1 O1 O6 OR OA BEL
  try simp only [Act.put]
  clear CIT
  have hmm : mayS s = false ∨ mayS s = true := by cases mayS s <;> simp
  have HGD := Lib.hid (fun h => (mayS_iff (s := s)).1 h)
  generalize mayS s = ms at *
  rcases hmm with rfl | rfl
  · go_wp2_with (first
      | (refine wpList_load_mid (by rfl) 46 _ (by rfl) w1.heap.size 0 (by rfl) (stA s (.slice oa1 s.f.kids.length ca1) (.slice ob1 s.store.length cb1) (.slice oc1 s.out.length cc1) (.slice od1 s.k.l.length cd1)).toList _ (by exact O1.out.part 0 _ (by rfl)) Tryz.underlying46 (by rfl) (by kernel_rfl) ?_)
      | (go_at_call 25; refine (CM1 _ _ _ _ _ X1.out).out.mono ?_; rintro e wy ⟨rfl, hb⟩; replace OA := Lib.hid (OA.out.later hb); replace OR := Lib.hid (OR.out.later hb); replace O6 := Lib.hid (O6.out.later hb); replace O1 := Lib.hid (O1.out.later hb); replace O13 := Lib.hid (O13.out.later hb); replace X1 := Lib.hid (X1.out.later hb); replace BEL := Lib.hid (BEL.out.trans (Below.mono hb BEL.out.size)); clear hb)
      | fail)
    go_ret
    exact ⟨rfl, BEL.out⟩
  have hG := HGD.out (by first | trivial | rfl)
  clear HGD
  by_cases hE : recvE s z = 0
  case neg =>
    have hne := recv_err hG hE
    have CRI := fun a b c d w' h => Lib.hid (recvItem_calls s a b c d z w' h hG HB.out hz)
    rw [hne, errI_not hE (recv_le (s := s) (x := z)).1] at CRI
    have CSA := fun af asv ao ak bf bs bo bk w' hA hB => Lib.hid (same_st hG (may_same hG.f) ▸ refSameS_calls s s af asv ao ak bf bs bo bk w' hA hB)
    generalize recvE s z = E at *
    clear hne hE hG
    go_wp2_with (first
      | (refine wpList_load_mid (by rfl) 46 _ (by rfl) w1.heap.size 0 (by rfl) (stA s (.slice oa1 s.f.kids.length ca1) (.slice ob1 s.store.length cb1) (.slice oc1 s.out.length cc1) (.slice od1 s.k.l.length cd1)).toList _ (by exact O1.out.part 0 _ (by rfl)) Tryz.underlying46 (by rfl) (by kernel_rfl) ?_)
      | (go_at_call 25; refine (CM1 _ _ _ _ _ X1.out).out.mono ?_; rintro e wy ⟨rfl, hb⟩; replace OA := Lib.hid (OA.out.later hb); replace OR := Lib.hid (OR.out.later hb); replace O6 := Lib.hid (O6.out.later hb); replace O1 := Lib.hid (O1.out.later hb); replace O13 := Lib.hid (O13.out.later hb); replace X1 := Lib.hid (X1.out.later hb); replace BEL := Lib.hid (BEL.out.trans (Below.mono hb BEL.out.size)); clear hb)
      | (refine wpList_load_mid (by rfl) 49 _ (by rfl) b13 0 (by rfl) (ic z) _ (by exact O13.out.part 0 _ (by rfl)) Tryz.underlying49 (by rfl) (by kernel_rfl) ?_)
      | (go_at_call 11; refine (CRI _ _ _ _ _ X1.out).out.mono ?_; rintro e w2 ⟨f6, s6, o6, k6, rfl, hst, hb⟩; obtain ⟨⟨oa2, ca2, rfl⟩, ⟨ob2, cb2, rfl⟩, ⟨oc2, cc2, rfl⟩, ⟨od2, cd2, rfl⟩⟩ := hst.now.shape; replace OA := Lib.hid (OA.out.later hb); replace OR := Lib.hid (OR.out.later hb); replace O6 := Lib.hid (O6.out.later hb); replace O1 := Lib.hid (O1.out.later hb); replace O13 := Lib.hid (O13.out.later hb); replace X1 := Lib.hid (X1.out.later hb); replace BEL := Lib.hid (BEL.out.trans (Below.mono hb BEL.out.size)); have X2 := Lib.hid (hst.now); have O2 := Lib.hid (Own.new w2 stZ.toArray 46); clear hst hb)
      | (refine wpList_store_mid (by rfl) 46 _ _ (by rfl) w2.heap.size 0 (stA s (.slice oa2 s.f.kids.length ca2) (.slice ob2 s.store.length cb2) (.slice oc2 s.out.length cc2) (.slice od2 s.k.l.length cd2)) (by rfl) (by rfl) (O2.out.there (by rfl)) (by kernel_rfl) (by simp [Value.oneCell']) ?_; have HK := Lib.hid (And.intro (O2.out.sets (stA s (.slice oa2 s.f.kids.length ca2) (.slice ob2 s.store.length cb2) (.slice oc2 s.out.length cc2) (.slice od2 s.k.l.length cd2)).toList (by rfl)) (below_sets (B := w2.heap.size) (b := w2.heap.size) (Nat.le_refl _) (stA s (.slice oa2 s.f.kids.length ca2) (.slice ob2 s.store.length cb2) (.slice oc2 s.out.length cc2) (.slice od2 s.k.l.length cd2)).toList 0 ((Below.refl _ _).alloc (Nat.le_refl _) (.cells stZ.toArray 46)))); revert HK; generalize World.setCells _ _ _ _ = W2; intro HK; have hb := HK.out.2; replace O2 := Lib.hid HK.out.1; replace OA := Lib.hid (OA.out.later hb); replace OR := Lib.hid (OR.out.later hb); replace O6 := Lib.hid (O6.out.later hb); replace O1 := Lib.hid (O1.out.later hb); replace O13 := Lib.hid (O13.out.later hb); replace X1 := Lib.hid (X1.out.later hb); replace BEL := Lib.hid (BEL.out.trans (Below.mono hb BEL.out.size)); replace X2 := Lib.hid (X2.out.later hb); clear HK hb)
      | (refine wpList_load_mid (by rfl) 46 _ (by rfl) w2.heap.size 0 (by rfl) (stA s (.slice oa2 s.f.kids.length ca2) (.slice ob2 s.store.length cb2) (.slice oc2 s.out.length cc2) (.slice od2 s.k.l.length cd2)).toList _ (by exact O2.out.part 0 _ (by rfl)) Tryz.underlying46 (by rfl) (by kernel_rfl) ?_)
      | (go_at_call 13; refine (CSA _ _ _ _ _ _ _ _ _ X2.out X1.out).out.mono ?_; rintro e wy ⟨rfl, hb⟩; replace OA := Lib.hid (OA.out.later hb); replace OR := Lib.hid (OR.out.later hb); replace O6 := Lib.hid (O6.out.later hb); replace O1 := Lib.hid (O1.out.later hb); replace O13 := Lib.hid (O13.out.later hb); replace O2 := Lib.hid (O2.out.later hb); replace X1 := Lib.hid (X1.out.later hb); replace X2 := Lib.hid (X2.out.later hb); replace BEL := Lib.hid (BEL.out.trans (Below.mono hb BEL.out.size)); clear hb)
      | fail)
    go_ret
    exact ⟨rfl, BEL.out⟩
  case pos =>
  have hUG := recv_good (x := z) hG
  have hsm := small_recv (x := z) hG (n := 3600) HSM.out.2.2.2.2 (by have := HSM.out.2.2.2.1; omega)
  have hUB := good_stb hUG (by omega) (by omega)
  have hGo := goes_good (id := z.id) (r := z.r) (c := z.c) (r2 := r2) (q2 := q2) hUG
  have hsm2 := small_goes (id := z.id) (r := z.r) (c := z.c) (r2 := r2) (q2 := q2) hUG (n := 3601) hsm.1 hsm.2
  have hGB := good_stb hGo (by omega) (by omega)
  have CRI := fun a b c d w' h => Lib.hid (recvItem_calls s a b c d z w' h hG HB.out hz)
  have CM2 := fun a b c d w' h => Lib.hid ((mayS_iff.2 hUG) ▸ localMay_calls (recvS s z) a b c d w' h hUB)
  have CKU := fun kv w' h => Lib.hid ((recv_knows hG hE).2 ▸ knowHas_calls (recvS s z).k z.id z.r z.c kv w' h hz.1)
  have CRU := fun a b c d w' h => Lib.hid (recvItem_calls (recvS s z) a b c d z w' h hUG hUB hz)
  rw [(recv_twice hG hE).1, (recv_twice hG hE).2] at CRU
  have CGO := fun a b d e w' h => Lib.hid (recvGoes_calls (recvS s z) a b d e z.id z.r z.c r2 q2 w' h hUG hUB hz.1)
  have CRG := fun a b c d w' h => Lib.hid (recvItem_calls (goesS (recvS s z) z.id z.r z.c r2 q2) a b c d z w' h hGo hGB hz)
  rw [(recv_back hG hE).1, (recv_back hG hE).2] at CRG
  have CSU := fun af asv ao ak bf bs bo bk w' hA hB => Lib.hid (same_st hUG (may_same hUG.f) ▸ refSameS_calls (recvS s z) (recvS s z) af asv ao ak bf bs bo bk w' hA hB)
  have CSG := fun af asv ao ak bf bs bo bk w' hA hB => Lib.hid (same_st hGo (may_same hGo.f) ▸ refSameS_calls (goesS (recvS s z) z.id z.r z.c r2 q2) (goesS (recvS s z) z.id z.r z.c r2 q2) af asv ao ak bf bs bo bk w' hA hB)
  have CM3 := fun a b c d w' h => Lib.hid ((mayS_iff.2 hGo) ▸ localMay_calls (goesS (recvS s z) z.id z.r z.c r2 q2) a b c d w' h hGB)
  have CSTU := fun a b c d w' h => Lib.hid (refStands_calls (recvS s z) a b c d z.id w' h (Nat.le_trans hUB.ls (by decide)) (Nat.le_trans hUB.lo (by decide)))
  have CKS := fun kv w' h => Lib.hid (knowHas_calls s.k z.id z.r z.c kv w' h hz.1)
  have CST1 := fun a b c d w' h => Lib.hid (refStands_calls s a b c d id w' h (Nat.le_trans HB.out.ls (by decide)) (Nat.le_trans HB.out.lo (by decide)))
  have CST2 := fun a b c d w' h => Lib.hid (refStands_calls (recvS s z) a b c d id w' h (Nat.le_trans hUB.ls (by decide)) (Nat.le_trans hUB.lo (by decide)))
  have HBEST := Lib.hid (fun h1 h2 => recv_best (x := z) hG hE h1 h2)
  have HOTH := Lib.hid (fun h => recv_other (x := z) (id := id) hG h)
  have HSS := Lib.hid (stands_same hG id)
  have OK1 := Lib.hid (stands_ok hG HS.out.ls.oks HS.out.lo.oks id)
  have HOK2 := Lib.hid (fun h1 h2 => stands_ok hUG h1 h2 id)
  rw [hE, show errI 0 = .nilIface from rfl] at CRI
  rw [show errI 0 = .nilIface from rfl] at CRU CRG
  generalize goesS (recvS s z) z.id z.r z.c r2 q2 = G at *
  generalize recvS s z = U at *
  generalize hasK s.k z.id z.r z.c = hk at *
  clear hG hE hUG hsm hUB hGo hsm2 hGB HB HSM
  go_upto_region 8 with (first
    | (refine wpList_load_mid (by rfl) 46 _ (by rfl) w1.heap.size 0 (by rfl) (stA s (.slice oa1 s.f.kids.length ca1) (.slice ob1 s.store.length cb1) (.slice oc1 s.out.length cc1) (.slice od1 s.k.l.length cd1)).toList _ (by exact O1.out.part 0 _ (by rfl)) Tryz.underlying46 (by rfl) (by kernel_rfl) ?_)
    | (go_at_call 25; refine (CM1 _ _ _ _ _ X1.out).out.mono ?_; rintro e wy ⟨rfl, hb⟩; replace OA := Lib.hid (OA.out.later hb); replace OR := Lib.hid (OR.out.later hb); replace O6 := Lib.hid (O6.out.later hb); replace O1 := Lib.hid (O1.out.later hb); replace O13 := Lib.hid (O13.out.later hb); replace X1 := Lib.hid (X1.out.later hb); replace BEL := Lib.hid (BEL.out.trans (Below.mono hb BEL.out.size)); clear hb)
    | fail)
  clear CM1
  go_upto_region 12 with (first
    | (refine wpList_load_mid (by rfl) 46 _ (by rfl) w1.heap.size 0 (by rfl) (stA s (.slice oa1 s.f.kids.length ca1) (.slice ob1 s.store.length cb1) (.slice oc1 s.out.length cc1) (.slice od1 s.k.l.length cd1)).toList _ (by exact O1.out.part 0 _ (by rfl)) Tryz.underlying46 (by rfl) (by kernel_rfl) ?_)
    | (refine wpList_load_mid (by rfl) 49 _ (by rfl) b13 0 (by rfl) (ic z) _ (by exact O13.out.part 0 _ (by rfl)) Tryz.underlying49 (by rfl) (by kernel_rfl) ?_)
    | (go_at_call 11; refine (CRI _ _ _ _ _ X1.out).out.mono ?_; rintro e w2 ⟨f6, s6, o6, k6, rfl, hst, hb⟩; obtain ⟨⟨oa2, ca2, rfl⟩, ⟨ob2, cb2, rfl⟩, ⟨oc2, cc2, rfl⟩, ⟨od2, cd2, rfl⟩⟩ := hst.now.shape; replace OA := Lib.hid (OA.out.later hb); replace OR := Lib.hid (OR.out.later hb); replace O6 := Lib.hid (O6.out.later hb); replace O1 := Lib.hid (O1.out.later hb); replace O13 := Lib.hid (O13.out.later hb); replace X1 := Lib.hid (X1.out.later hb); replace BEL := Lib.hid (BEL.out.trans (Below.mono hb BEL.out.size)); have X2 := Lib.hid (hst.now); have O2 := Lib.hid (Own.new w2 stZ.toArray 46); clear hst hb)
    | (refine wpList_store_mid (by rfl) 46 _ _ (by rfl) w2.heap.size 0 (stA U (.slice oa2 U.f.kids.length ca2) (.slice ob2 U.store.length cb2) (.slice oc2 U.out.length cc2) (.slice od2 U.k.l.length cd2)) (by rfl) (by rfl) (O2.out.there (by rfl)) (by kernel_rfl) (by simp [Value.oneCell']) ?_; have HK := Lib.hid (And.intro (O2.out.sets (stA U (.slice oa2 U.f.kids.length ca2) (.slice ob2 U.store.length cb2) (.slice oc2 U.out.length cc2) (.slice od2 U.k.l.length cd2)).toList (by rfl)) (below_sets (B := w2.heap.size) (b := w2.heap.size) (Nat.le_refl _) (stA U (.slice oa2 U.f.kids.length ca2) (.slice ob2 U.store.length cb2) (.slice oc2 U.out.length cc2) (.slice od2 U.k.l.length cd2)).toList 0 ((Below.refl _ _).alloc (Nat.le_refl _) (.cells stZ.toArray 46)))); revert HK; generalize World.setCells _ _ _ _ = W2; intro HK; have hb := HK.out.2; replace O2 := Lib.hid HK.out.1; replace OA := Lib.hid (OA.out.later hb); replace OR := Lib.hid (OR.out.later hb); replace O6 := Lib.hid (O6.out.later hb); replace O1 := Lib.hid (O1.out.later hb); replace O13 := Lib.hid (O13.out.later hb); replace X1 := Lib.hid (X1.out.later hb); replace BEL := Lib.hid (BEL.out.trans (Below.mono hb BEL.out.size)); replace X2 := Lib.hid (X2.out.later hb); clear HK hb)
    | fail)
  clear CRI
  have l13 := O13.out.cell
  have z13 := O13.out.lt
  go_upto_region 14 with (first
    | (refine wpList_load_mid (by rfl) 46 _ (by rfl) w2.heap.size 0 (by rfl) (stA U (.slice oa2 U.f.kids.length ca2) (.slice ob2 U.store.length cb2) (.slice oc2 U.out.length cc2) (.slice od2 U.k.l.length cd2)).toList _ (by exact O2.out.part 0 _ (by rfl)) Tryz.underlying46 (by rfl) (by kernel_rfl) ?_)
    | (go_at_call 25; refine (CM2 _ _ _ _ _ X2.out).out.mono ?_; rintro e wy ⟨rfl, hb⟩; replace OA := Lib.hid (OA.out.later hb); replace OR := Lib.hid (OR.out.later hb); replace O6 := Lib.hid (O6.out.later hb); replace O1 := Lib.hid (O1.out.later hb); replace O13 := Lib.hid (O13.out.later hb); replace O2 := Lib.hid (O2.out.later hb); replace X1 := Lib.hid (X1.out.later hb); replace X2 := Lib.hid (X2.out.later hb); replace BEL := Lib.hid (BEL.out.trans (Below.mono hb BEL.out.size)); clear hb; have l13 := O13.out.cell; have z13 := O13.out.lt; have l06 := O6.out.cell; have z06 := O6.out.lt)
    | (refine wpList_load_mid_g (by rfl) 31 _ (by rfl) w2.heap.size 8 (by rfl) (knA U.k.star (.slice od2 U.k.l.length cd2)).toList _ (by exact O2.out.part 8 _ (by rfl)) Tryz.underlying31 (by rfl) (by kernel_rfl) ?_)
    | (go_at_call 26; refine (CKU _ _ X2.out.lk).out.mono ?_; rintro e wy ⟨rfl, hb⟩; replace OA := Lib.hid (OA.out.later hb); replace OR := Lib.hid (OR.out.later hb); replace O6 := Lib.hid (O6.out.later hb); replace O1 := Lib.hid (O1.out.later hb); replace O13 := Lib.hid (O13.out.later hb); replace O2 := Lib.hid (O2.out.later hb); replace X1 := Lib.hid (X1.out.later hb); replace X2 := Lib.hid (X2.out.later hb); replace BEL := Lib.hid (BEL.out.trans (Below.mono hb BEL.out.size)); clear hb; have l13 := O13.out.cell; have z13 := O13.out.lt; have l06 := O6.out.cell; have z06 := O6.out.lt)
    | fail)
  clear CM2 CKU
  go_upto_region 15 with (first
    | (refine wpList_load_mid (by rfl) 46 _ (by rfl) w2.heap.size 0 (by rfl) (stA U (.slice oa2 U.f.kids.length ca2) (.slice ob2 U.store.length cb2) (.slice oc2 U.out.length cc2) (.slice od2 U.k.l.length cd2)).toList _ (by exact O2.out.part 0 _ (by rfl)) Tryz.underlying46 (by rfl) (by kernel_rfl) ?_)
    | (refine wpList_load_mid (by rfl) 49 _ (by rfl) b13 0 (by rfl) (ic z) _ (by exact O13.out.part 0 _ (by rfl)) Tryz.underlying49 (by rfl) (by kernel_rfl) ?_)
    | (go_at_call 11; refine (CRU _ _ _ _ _ X2.out).out.mono ?_; rintro e w3 ⟨f6, s6, o6, k6, rfl, hst, hb⟩; obtain ⟨⟨oa3, ca3, rfl⟩, ⟨ob3, cb3, rfl⟩, ⟨oc3, cc3, rfl⟩, ⟨od3, cd3, rfl⟩⟩ := hst.now.shape; replace OA := Lib.hid (OA.out.later hb); replace OR := Lib.hid (OR.out.later hb); replace O6 := Lib.hid (O6.out.later hb); replace O1 := Lib.hid (O1.out.later hb); replace O13 := Lib.hid (O13.out.later hb); replace O2 := Lib.hid (O2.out.later hb); replace X1 := Lib.hid (X1.out.later hb); replace X2 := Lib.hid (X2.out.later hb); replace BEL := Lib.hid (BEL.out.trans (Below.mono hb BEL.out.size)); have X3 := Lib.hid (hst.now); have O3 := Lib.hid (Own.new w3 stZ.toArray 46); clear hst hb)
    | (refine wpList_store_mid (by rfl) 46 _ _ (by rfl) w3.heap.size 0 (stA U (.slice oa3 U.f.kids.length ca3) (.slice ob3 U.store.length cb3) (.slice oc3 U.out.length cc3) (.slice od3 U.k.l.length cd3)) (by rfl) (by rfl) (O3.out.there (by rfl)) (by kernel_rfl) (by simp [Value.oneCell']) ?_; have HK := Lib.hid (And.intro (O3.out.sets (stA U (.slice oa3 U.f.kids.length ca3) (.slice ob3 U.store.length cb3) (.slice oc3 U.out.length cc3) (.slice od3 U.k.l.length cd3)).toList (by rfl)) (below_sets (B := w3.heap.size) (b := w3.heap.size) (Nat.le_refl _) (stA U (.slice oa3 U.f.kids.length ca3) (.slice ob3 U.store.length cb3) (.slice oc3 U.out.length cc3) (.slice od3 U.k.l.length cd3)).toList 0 ((Below.refl _ _).alloc (Nat.le_refl _) (.cells stZ.toArray 46)))); revert HK; generalize World.setCells _ _ _ _ = W3; intro HK; have hb := HK.out.2; replace O3 := Lib.hid HK.out.1; replace OA := Lib.hid (OA.out.later hb); replace OR := Lib.hid (OR.out.later hb); replace O6 := Lib.hid (O6.out.later hb); replace O1 := Lib.hid (O1.out.later hb); replace O13 := Lib.hid (O13.out.later hb); replace O2 := Lib.hid (O2.out.later hb); replace X1 := Lib.hid (X1.out.later hb); replace X2 := Lib.hid (X2.out.later hb); replace BEL := Lib.hid (BEL.out.trans (Below.mono hb BEL.out.size)); replace X3 := Lib.hid (X3.out.later hb); clear HK hb)
    | fail)
  clear CRU
  have l13 := O13.out.cell
  have z13 := O13.out.lt
  have l06 := O6.out.cell
  have z06 := O6.out.lt
  go_upto_region 16 with (first
    | (refine wpList_load_mid (by rfl) 46 _ (by rfl) w2.heap.size 0 (by rfl) (stA U (.slice oa2 U.f.kids.length ca2) (.slice ob2 U.store.length cb2) (.slice oc2 U.out.length cc2) (.slice od2 U.k.l.length cd2)).toList _ (by exact O2.out.part 0 _ (by rfl)) Tryz.underlying46 (by rfl) (by kernel_rfl) ?_)
    | (go_at_call 15; refine (CGO _ _ _ _ _ X2.out).out.mono ?_; rintro e w4 ⟨f6, s6, o6, k6, rfl, hst, hb⟩; obtain ⟨⟨oa4, ca4, rfl⟩, ⟨ob4, cb4, rfl⟩, ⟨oc4, cc4, rfl⟩, ⟨od4, cd4, rfl⟩⟩ := hst.now.shape; replace OA := Lib.hid (OA.out.later hb); replace OR := Lib.hid (OR.out.later hb); replace O6 := Lib.hid (O6.out.later hb); replace O1 := Lib.hid (O1.out.later hb); replace O13 := Lib.hid (O13.out.later hb); replace O2 := Lib.hid (O2.out.later hb); replace O3 := Lib.hid (O3.out.later hb); replace X1 := Lib.hid (X1.out.later hb); replace X2 := Lib.hid (X2.out.later hb); replace X3 := Lib.hid (X3.out.later hb); replace BEL := Lib.hid (BEL.out.trans (Below.mono hb BEL.out.size)); have X4 := Lib.hid (hst.now); have O4 := Lib.hid (Own.new w4 stZ.toArray 46); clear hst hb)
    | (refine wpList_store_mid (by rfl) 46 _ _ (by rfl) w4.heap.size 0 (stA G (.slice oa4 G.f.kids.length ca4) (.slice ob4 G.store.length cb4) (.slice oc4 G.out.length cc4) (.slice od4 G.k.l.length cd4)) (by rfl) (by rfl) (O4.out.there (by rfl)) (by kernel_rfl) (by simp [Value.oneCell']) ?_; have HK := Lib.hid (And.intro (O4.out.sets (stA G (.slice oa4 G.f.kids.length ca4) (.slice ob4 G.store.length cb4) (.slice oc4 G.out.length cc4) (.slice od4 G.k.l.length cd4)).toList (by rfl)) (below_sets (B := w4.heap.size) (b := w4.heap.size) (Nat.le_refl _) (stA G (.slice oa4 G.f.kids.length ca4) (.slice ob4 G.store.length cb4) (.slice oc4 G.out.length cc4) (.slice od4 G.k.l.length cd4)).toList 0 ((Below.refl _ _).alloc (Nat.le_refl _) (.cells stZ.toArray 46)))); revert HK; generalize World.setCells _ _ _ _ = W4; intro HK; have hb := HK.out.2; replace O4 := Lib.hid HK.out.1; replace OA := Lib.hid (OA.out.later hb); replace OR := Lib.hid (OR.out.later hb); replace O6 := Lib.hid (O6.out.later hb); replace O1 := Lib.hid (O1.out.later hb); replace O13 := Lib.hid (O13.out.later hb); replace O2 := Lib.hid (O2.out.later hb); replace O3 := Lib.hid (O3.out.later hb); replace X1 := Lib.hid (X1.out.later hb); replace X2 := Lib.hid (X2.out.later hb); replace X3 := Lib.hid (X3.out.later hb); replace BEL := Lib.hid (BEL.out.trans (Below.mono hb BEL.out.size)); replace X4 := Lib.hid (X4.out.later hb); clear HK hb)
    | fail)
  clear CGO l13 z13 l06 z06
  go_upto_region 17 with (first
    | (refine wpList_load_mid (by rfl) 46 _ (by rfl) w4.heap.size 0 (by rfl) (stA G (.slice oa4 G.f.kids.length ca4) (.slice ob4 G.store.length cb4) (.slice oc4 G.out.length cc4) (.slice od4 G.k.l.length cd4)).toList _ (by exact O4.out.part 0 _ (by rfl)) Tryz.underlying46 (by rfl) (by kernel_rfl) ?_)
    | (refine wpList_load_mid (by rfl) 49 _ (by rfl) b13 0 (by rfl) (ic z) _ (by exact O13.out.part 0 _ (by rfl)) Tryz.underlying49 (by rfl) (by kernel_rfl) ?_)
    | (go_at_call 11; refine (CRG _ _ _ _ _ X4.out).out.mono ?_; rintro e w5 ⟨f6, s6, o6, k6, rfl, hst, hb⟩; obtain ⟨⟨oa5, ca5, rfl⟩, ⟨ob5, cb5, rfl⟩, ⟨oc5, cc5, rfl⟩, ⟨od5, cd5, rfl⟩⟩ := hst.now.shape; replace OA := Lib.hid (OA.out.later hb); replace OR := Lib.hid (OR.out.later hb); replace O6 := Lib.hid (O6.out.later hb); replace O1 := Lib.hid (O1.out.later hb); replace O13 := Lib.hid (O13.out.later hb); replace O2 := Lib.hid (O2.out.later hb); replace O3 := Lib.hid (O3.out.later hb); replace O4 := Lib.hid (O4.out.later hb); replace X1 := Lib.hid (X1.out.later hb); replace X2 := Lib.hid (X2.out.later hb); replace X3 := Lib.hid (X3.out.later hb); replace X4 := Lib.hid (X4.out.later hb); replace BEL := Lib.hid (BEL.out.trans (Below.mono hb BEL.out.size)); have X5 := Lib.hid (hst.now); have O5 := Lib.hid (Own.new w5 stZ.toArray 46); clear hst hb)
    | (refine wpList_store_mid (by rfl) 46 _ _ (by rfl) w5.heap.size 0 (stA G (.slice oa5 G.f.kids.length ca5) (.slice ob5 G.store.length cb5) (.slice oc5 G.out.length cc5) (.slice od5 G.k.l.length cd5)) (by rfl) (by rfl) (O5.out.there (by rfl)) (by kernel_rfl) (by simp [Value.oneCell']) ?_; have HK := Lib.hid (And.intro (O5.out.sets (stA G (.slice oa5 G.f.kids.length ca5) (.slice ob5 G.store.length cb5) (.slice oc5 G.out.length cc5) (.slice od5 G.k.l.length cd5)).toList (by rfl)) (below_sets (B := w5.heap.size) (b := w5.heap.size) (Nat.le_refl _) (stA G (.slice oa5 G.f.kids.length ca5) (.slice ob5 G.store.length cb5) (.slice oc5 G.out.length cc5) (.slice od5 G.k.l.length cd5)).toList 0 ((Below.refl _ _).alloc (Nat.le_refl _) (.cells stZ.toArray 46)))); revert HK; generalize World.setCells _ _ _ _ = W5; intro HK; have hb := HK.out.2; replace O5 := Lib.hid HK.out.1; replace OA := Lib.hid (OA.out.later hb); replace OR := Lib.hid (OR.out.later hb); replace O6 := Lib.hid (O6.out.later hb); replace O1 := Lib.hid (O1.out.later hb); replace O13 := Lib.hid (O13.out.later hb); replace O2 := Lib.hid (O2.out.later hb); replace O3 := Lib.hid (O3.out.later hb); replace O4 := Lib.hid (O4.out.later hb); replace X1 := Lib.hid (X1.out.later hb); replace X2 := Lib.hid (X2.out.later hb); replace X3 := Lib.hid (X3.out.later hb); replace X4 := Lib.hid (X4.out.later hb); replace BEL := Lib.hid (BEL.out.trans (Below.mono hb BEL.out.size)); replace X5 := Lib.hid (X5.out.later hb); clear HK hb)
    | fail)
  clear CRG
  go_upto_region 18 with (first
    | (refine wpList_load_mid (by rfl) 46 _ (by rfl) w3.heap.size 0 (by rfl) (stA U (.slice oa3 U.f.kids.length ca3) (.slice ob3 U.store.length cb3) (.slice oc3 U.out.length cc3) (.slice od3 U.k.l.length cd3)).toList _ (by exact O3.out.part 0 _ (by rfl)) Tryz.underlying46 (by rfl) (by kernel_rfl) ?_)
    | (refine wpList_load_mid (by rfl) 46 _ (by rfl) w2.heap.size 0 (by rfl) (stA U (.slice oa2 U.f.kids.length ca2) (.slice ob2 U.store.length cb2) (.slice oc2 U.out.length cc2) (.slice od2 U.k.l.length cd2)).toList _ (by exact O2.out.part 0 _ (by rfl)) Tryz.underlying46 (by rfl) (by kernel_rfl) ?_)
    | (go_at_call 13; refine (CSU _ _ _ _ _ _ _ _ _ X3.out X2.out).out.mono ?_; rintro e wy ⟨rfl, hb⟩; replace OA := Lib.hid (OA.out.later hb); replace OR := Lib.hid (OR.out.later hb); replace O6 := Lib.hid (O6.out.later hb); replace O1 := Lib.hid (O1.out.later hb); replace O13 := Lib.hid (O13.out.later hb); replace O2 := Lib.hid (O2.out.later hb); replace O3 := Lib.hid (O3.out.later hb); replace O4 := Lib.hid (O4.out.later hb); replace O5 := Lib.hid (O5.out.later hb); replace X1 := Lib.hid (X1.out.later hb); replace X2 := Lib.hid (X2.out.later hb); replace X3 := Lib.hid (X3.out.later hb); replace X4 := Lib.hid (X4.out.later hb); replace X5 := Lib.hid (X5.out.later hb); replace BEL := Lib.hid (BEL.out.trans (Below.mono hb BEL.out.size)); clear hb)
    | fail)
  clear CSU
  go_upto_region 19 with (first
    | (refine wpList_load_mid (by rfl) 46 _ (by rfl) w5.heap.size 0 (by rfl) (stA G (.slice oa5 G.f.kids.length ca5) (.slice ob5 G.store.length cb5) (.slice oc5 G.out.length cc5) (.slice od5 G.k.l.length cd5)).toList _ (by exact O5.out.part 0 _ (by rfl)) Tryz.underlying46 (by rfl) (by kernel_rfl) ?_)
    | (refine wpList_load_mid (by rfl) 46 _ (by rfl) w4.heap.size 0 (by rfl) (stA G (.slice oa4 G.f.kids.length ca4) (.slice ob4 G.store.length cb4) (.slice oc4 G.out.length cc4) (.slice od4 G.k.l.length cd4)).toList _ (by exact O4.out.part 0 _ (by rfl)) Tryz.underlying46 (by rfl) (by kernel_rfl) ?_)
    | (go_at_call 13; refine (CSG _ _ _ _ _ _ _ _ _ X5.out X4.out).out.mono ?_; rintro e wy ⟨rfl, hb⟩; replace OA := Lib.hid (OA.out.later hb); replace OR := Lib.hid (OR.out.later hb); replace O6 := Lib.hid (O6.out.later hb); replace O1 := Lib.hid (O1.out.later hb); replace O13 := Lib.hid (O13.out.later hb); replace O2 := Lib.hid (O2.out.later hb); replace O3 := Lib.hid (O3.out.later hb); replace O4 := Lib.hid (O4.out.later hb); replace O5 := Lib.hid (O5.out.later hb); replace X1 := Lib.hid (X1.out.later hb); replace X2 := Lib.hid (X2.out.later hb); replace X3 := Lib.hid (X3.out.later hb); replace X4 := Lib.hid (X4.out.later hb); replace X5 := Lib.hid (X5.out.later hb); replace BEL := Lib.hid (BEL.out.trans (Below.mono hb BEL.out.size)); clear hb)
    | fail)
  clear CSG
  go_upto_region 21 with (first
    | (refine wpList_load_mid_g (by rfl) 46 _ (by rfl) w4.heap.size 0 (by rfl) (stA G (.slice oa4 G.f.kids.length ca4) (.slice ob4 G.store.length cb4) (.slice oc4 G.out.length cc4) (.slice od4 G.k.l.length cd4)).toList _ (by exact O4.out.part 0 _ (by rfl)) Tryz.underlying46 (by rfl) (by kernel_rfl) ?_)
    | (refine wpList_load_mid (by rfl) 46 _ (by rfl) w4.heap.size 0 (by rfl) (stA G (.slice oa4 G.f.kids.length ca4) (.slice ob4 G.store.length cb4) (.slice oc4 G.out.length cc4) (.slice od4 G.k.l.length cd4)).toList _ (by exact O4.out.part 0 _ (by rfl)) Tryz.underlying46 (by rfl) (by kernel_rfl) ?_)
    | (go_at_call 25; refine (CM3 _ _ _ _ _ X4.out).out.mono ?_; rintro e wy ⟨rfl, hb⟩; replace OA := Lib.hid (OA.out.later hb); replace OR := Lib.hid (OR.out.later hb); replace O6 := Lib.hid (O6.out.later hb); replace O1 := Lib.hid (O1.out.later hb); replace O13 := Lib.hid (O13.out.later hb); replace O2 := Lib.hid (O2.out.later hb); replace O3 := Lib.hid (O3.out.later hb); replace O4 := Lib.hid (O4.out.later hb); replace O5 := Lib.hid (O5.out.later hb); replace X1 := Lib.hid (X1.out.later hb); replace X2 := Lib.hid (X2.out.later hb); replace X3 := Lib.hid (X3.out.later hb); replace X4 := Lib.hid (X4.out.later hb); replace X5 := Lib.hid (X5.out.later hb); replace BEL := Lib.hid (BEL.out.trans (Below.mono hb BEL.out.size)); clear hb)
    | fail)
  clear CM3 X3 X5 O3 O5 X4 O4
  generalize hst : standsS U z.id = yt at *
  obtain ⟨y, th⟩ := yt
  clear hst
  have l13 := O13.out.cell
  have z13 := O13.out.lt
  go_upto_region 22 with (first
    | (refine wpList_load_mid (by rfl) 46 _ (by rfl) w2.heap.size 0 (by rfl) (stA U (.slice oa2 U.f.kids.length ca2) (.slice ob2 U.store.length cb2) (.slice oc2 U.out.length cc2) (.slice od2 U.k.l.length cd2)).toList _ (by exact O2.out.part 0 _ (by rfl)) Tryz.underlying46 (by rfl) (by kernel_rfl) ?_)
    | (go_at_call 27; refine (CSTU _ _ _ _ _ X2.out).out.mono ?_; rintro e wg ⟨rfl, hb⟩; replace OA := Lib.hid (OA.out.later hb); replace OR := Lib.hid (OR.out.later hb); replace O6 := Lib.hid (O6.out.later hb); replace O1 := Lib.hid (O1.out.later hb); replace O13 := Lib.hid (O13.out.later hb); replace O2 := Lib.hid (O2.out.later hb); replace X1 := Lib.hid (X1.out.later hb); replace X2 := Lib.hid (X2.out.later hb); replace BEL := Lib.hid (BEL.out.trans (Below.mono hb BEL.out.size)); clear hb)
    | fail)
  clear CSTU
  clear l13 z13
  have OY := Lib.hid (Own.new wg (iA y) 49)
  have hb9 : Below wg.heap.size wg (wg.alloc (.cells (iA y) 49)) := (Below.refl _ _).alloc (Nat.le_refl _) _
  replace OA := Lib.hid (OA.out.later hb9)
  replace OR := Lib.hid (OR.out.later hb9)
  replace O6 := Lib.hid (O6.out.later hb9)
  replace O1 := Lib.hid (O1.out.later hb9)
  replace O13 := Lib.hid (O13.out.later hb9)
  replace O2 := Lib.hid (O2.out.later hb9)
  replace X1 := Lib.hid (X1.out.later hb9)
  replace X2 := Lib.hid (X2.out.later hb9)
  replace BEL := Lib.hid (BEL.out.trans (Below.mono hb9 BEL.out.size))
  clear hb9
  revert BEL
  revert OA
  revert OR
  revert O6
  revert O1
  revert O13
  revert O2
  revert X1
  revert X2
  revert OY
  generalize World.alloc _ _ = VOY
  generalize wg.heap.size = by_ at *
  intro OY X2 X1 O2 O13 O1 O6 OR OA BEL
  try simp only [Act.put]
  have l13 := O13.out.cell
  have z13 := O13.out.lt
  go_upto_region 23 with (first
    | (refine wpList_load_mid (by rfl) 31 _ (by rfl) w1.heap.size 8 (by rfl) (knA s.k.star (.slice od1 s.k.l.length cd1)).toList _ (by exact O1.out.part 8 _ (by rfl)) Tryz.underlying31 (by rfl) (by kernel_rfl) ?_)
    | (go_at_call 26; refine (CKS _ _ X1.out.lk).out.mono ?_; rintro e wy ⟨rfl, hb⟩; replace OA := Lib.hid (OA.out.later hb); replace OR := Lib.hid (OR.out.later hb); replace O6 := Lib.hid (O6.out.later hb); replace O1 := Lib.hid (O1.out.later hb); replace O13 := Lib.hid (O13.out.later hb); replace O2 := Lib.hid (O2.out.later hb); replace OY := Lib.hid (OY.out.later hb); replace X1 := Lib.hid (X1.out.later hb); replace X2 := Lib.hid (X2.out.later hb); replace BEL := Lib.hid (BEL.out.trans (Below.mono hb BEL.out.size)); clear hb; have l13 := O13.out.cell; have z13 := O13.out.lt; have l06 := O6.out.cell; have z06 := O6.out.lt)
    | fail)
  clear CKS
  have hbest : hk = false → th = true → behT z y = false := fun h1 h2 => HBEST.out h1 (by rw [h2])
  have HBE := Lib.hid hbest
  clear hbest HBEST
  have CBH := fun w' => Lib.hid (behT_calls z y w')
  have hw : hk = true ∨ (hk = false ∧ th = false) ∨ (hk = false ∧ th = true ∧ behT z y = false) := by
    cases hk
    · cases th
      · exact .inr (.inl ⟨rfl, rfl⟩)
      · exact .inr (.inr ⟨rfl, rfl, HBE.out rfl rfl⟩)
    · exact .inl rfl
  clear HBE
  generalize behT z y = bh at *
  go_upto_region 23 with fail
  have lY := OY.out.cell
  have zY := OY.out.lt
  have LT := Lib.hid (Below.refl wy.heap.size wy)
  go_cut [138] (fun s138 ws => s138 = .bool false ∧ Hid (Later wy ws))
  case first =>
    rcases hw with rfl | ⟨rfl, rfl⟩ | ⟨rfl, rfl, rfl⟩
    · go_wp2_with fail
      go_meet
      exact ⟨rfl, LT.out⟩
    · go_wp2_with fail
      go_meet
      exact ⟨rfl, LT.out⟩
    · go_wp2_with (first
      | (refine wpList_load_mid_g (by rfl) 49 _ (by rfl) b13 0 (by rfl) (ic z) _ (by exact O13.out.part 0 _ (by rfl)) Tryz.underlying49 (by rfl) (by kernel_rfl) ?_)
      | (refine wpList_load_mid_g (by rfl) 49 _ (by rfl) by_ 0 (by rfl) (ic y) _ (by exact OY.out.part 0 _ (by rfl)) Tryz.underlying49 (by rfl) (by kernel_rfl) ?_)
      | (go_at_call 28; refine (CBH _).out.mono ?_; rintro e wy ⟨rfl, hb⟩; replace OA := Lib.hid (OA.out.later hb); replace OR := Lib.hid (OR.out.later hb); replace O6 := Lib.hid (O6.out.later hb); replace O1 := Lib.hid (O1.out.later hb); replace O13 := Lib.hid (O13.out.later hb); replace O2 := Lib.hid (O2.out.later hb); replace OY := Lib.hid (OY.out.later hb); replace X1 := Lib.hid (X1.out.later hb); replace X2 := Lib.hid (X2.out.later hb); replace BEL := Lib.hid (BEL.out.trans (Below.mono hb BEL.out.size)); replace LT := Lib.hid (LT.out.trans (Below.mono hb LT.out.size)); clear hb)
      | fail)
      go_meet
      exact ⟨rfl, LT.out⟩
  case rest =>
  clear lY zY l13 z13 LT hw CBH OY
  obtain ⟨rfl, hw⟩ := hcut
  have hb := hw.out
  clear hw
  replace OA := Lib.hid (OA.out.later hb)
  replace OR := Lib.hid (OR.out.later hb)
  replace O6 := Lib.hid (O6.out.later hb)
  replace O1 := Lib.hid (O1.out.later hb)
  replace O13 := Lib.hid (O13.out.later hb)
  replace O2 := Lib.hid (O2.out.later hb)
  replace X1 := Lib.hid (X1.out.later hb)
  replace X2 := Lib.hid (X2.out.later hb)
  replace BEL := Lib.hid (BEL.out.trans (Below.mono hb BEL.out.size))
  clear hb
  by_cases hii : id = z.id
  · have qid : (id.toList == z.id.toList) = true := tl_eq.2 hii
    have OK2 := Lib.hid (HOK2.out X2.out.ls.oks X2.out.lo.oks)
    have CSL := fun va vb w' h1 h2 => Lib.hid (sameList_calls sameT sameT_calls [(standsS s id).1] [(standsS U id).1] va vb w' h1 h2)
    clear hii HOTH HSS HOK2
    generalize hst1 : standsS s id = yt1 at *
    obtain ⟨y1, t1⟩ := yt1
    generalize hst2 : standsS U id = yt2 at *
    obtain ⟨y2, t2⟩ := yt2
    clear hst1 hst2
    go_upto_region 26 with (first
        | (refine wpList_load_mid (by rfl) 46 _ (by rfl) w1.heap.size 0 (by rfl) (stA s (.slice oa1 s.f.kids.length ca1) (.slice ob1 s.store.length cb1) (.slice oc1 s.out.length cc1) (.slice od1 s.k.l.length cd1)).toList _ (by exact O1.out.part 0 _ (by rfl)) Tryz.underlying46 (by rfl) (by kernel_rfl) ?_)
        | (go_at_call 27; refine (CST1 _ _ _ _ _ X1.out).out.mono ?_; rintro e wg ⟨rfl, hb⟩; replace OA := Lib.hid (OA.out.later hb); replace OR := Lib.hid (OR.out.later hb); replace O6 := Lib.hid (O6.out.later hb); replace O1 := Lib.hid (O1.out.later hb); replace O13 := Lib.hid (O13.out.later hb); replace O2 := Lib.hid (O2.out.later hb); replace X1 := Lib.hid (X1.out.later hb); replace X2 := Lib.hid (X2.out.later hb); replace BEL := Lib.hid (BEL.out.trans (Below.mono hb BEL.out.size)); clear hb)
        | fail)
    clear CST1
    have OP := Lib.hid (Own.new wg (iA y1) 49)
    have hb9 : Below wg.heap.size wg (wg.alloc (.cells (iA y1) 49)) := (Below.refl _ _).alloc (Nat.le_refl _) _
    replace OA := Lib.hid (OA.out.later hb9)
    replace OR := Lib.hid (OR.out.later hb9)
    replace O6 := Lib.hid (O6.out.later hb9)
    replace O1 := Lib.hid (O1.out.later hb9)
    replace O13 := Lib.hid (O13.out.later hb9)
    replace O2 := Lib.hid (O2.out.later hb9)
    replace X1 := Lib.hid (X1.out.later hb9)
    replace X2 := Lib.hid (X2.out.later hb9)
    replace BEL := Lib.hid (BEL.out.trans (Below.mono hb9 BEL.out.size))
    clear hb9
    revert BEL
    revert OA
    revert OR
    revert O6
    revert O1
    revert O13
    revert O2
    revert X1
    revert X2
    revert OP
    generalize World.alloc _ _ = VOP
    generalize wg.heap.size = bp_ at *
    intro OP X2 X1 O2 O13 O1 O6 OR OA BEL
    try simp only [Act.put]
    go_upto_region 27 with (first
        | (refine wpList_load_mid (by rfl) 46 _ (by rfl) w2.heap.size 0 (by rfl) (stA U (.slice oa2 U.f.kids.length ca2) (.slice ob2 U.store.length cb2) (.slice oc2 U.out.length cc2) (.slice od2 U.k.l.length cd2)).toList _ (by exact O2.out.part 0 _ (by rfl)) Tryz.underlying46 (by rfl) (by kernel_rfl) ?_)
        | (go_at_call 27; refine (CST2 _ _ _ _ _ X2.out).out.mono ?_; rintro e wg ⟨rfl, hb⟩; replace OA := Lib.hid (OA.out.later hb); replace OR := Lib.hid (OR.out.later hb); replace O6 := Lib.hid (O6.out.later hb); replace O1 := Lib.hid (O1.out.later hb); replace O13 := Lib.hid (O13.out.later hb); replace O2 := Lib.hid (O2.out.later hb); replace OP := Lib.hid (OP.out.later hb); replace X1 := Lib.hid (X1.out.later hb); replace X2 := Lib.hid (X2.out.later hb); replace BEL := Lib.hid (BEL.out.trans (Below.mono hb BEL.out.size)); clear hb)
        | fail)
    clear CST2
    have OQ := Lib.hid (Own.new wg (iA y2) 49)
    have hb9 : Below wg.heap.size wg (wg.alloc (.cells (iA y2) 49)) := (Below.refl _ _).alloc (Nat.le_refl _) _
    replace OA := Lib.hid (OA.out.later hb9)
    replace OR := Lib.hid (OR.out.later hb9)
    replace O6 := Lib.hid (O6.out.later hb9)
    replace O1 := Lib.hid (O1.out.later hb9)
    replace O13 := Lib.hid (O13.out.later hb9)
    replace O2 := Lib.hid (O2.out.later hb9)
    replace OP := Lib.hid (OP.out.later hb9)
    replace X1 := Lib.hid (X1.out.later hb9)
    replace X2 := Lib.hid (X2.out.later hb9)
    replace BEL := Lib.hid (BEL.out.trans (Below.mono hb9 BEL.out.size))
    clear hb9
    revert BEL
    revert OA
    revert OR
    revert O6
    revert O1
    revert O13
    revert O2
    revert OP
    revert X1
    revert X2
    revert OQ
    generalize World.alloc _ _ = VOQ
    generalize wg.heap.size = bq_ at *
    intro OQ X2 X1 OP O2 O13 O1 O6 OR OA BEL
    try simp only [Act.put]
    have HB2 := Lib.hid (show Below VOQ.heap.size VOQ ((VOQ.alloc (.cells (iA y1) 49)).alloc (.cells (iA y2) 49)) from ((Below.refl _ _).alloc (Nat.le_refl _) _).alloc (by simp) _)
    have RP1 := Lib.hid ((row_oneI VOQ y1 49 OK1.out).later ((Below.refl _ _).alloc (Nat.le_refl _) (.cells (iA y2) 49)))
    have RP2 : Hid (Row 8 ic ((VOQ.alloc (.cells (iA y1) 49)).alloc (.cells (iA y2) 49)) [y2] (.slice (some ⟨VOQ.heap.size + 1, 0, none⟩) 1 1)) := by
      have h := row_oneI (VOQ.alloc (.cells (iA y1) 49)) y2 49 OK2.out
      rw [show (VOQ.alloc (.cells (iA y1) 49)).heap.size = VOQ.heap.size + 1 by simp] at h
      exact h
    go_upto_region 28 with (first
        | (refine wpList_load_mid (by rfl) 49 _ (by rfl) bp_ 0 (by rfl) (ic y1) _ (by exact OP.out.part 0 _ (by rfl)) Tryz.underlying49 (by rfl) (by kernel_rfl) ?_)
        | (refine wpList_load_mid (by rfl) 49 _ (by rfl) bp_ 0 (by rfl) (ic y1) _ (by exact (OP.out.alloc (.cells (iA y1) 49)).part 0 _ (by rfl)) Tryz.underlying49 (by rfl) (by kernel_rfl) ?_)
        | (refine wpList_load_mid (by rfl) 49 _ (by rfl) bq_ 0 (by rfl) (ic y2) _ (by exact OQ.out.part 0 _ (by rfl)) Tryz.underlying49 (by rfl) (by kernel_rfl) ?_)
        | (refine wpList_load_mid (by rfl) 49 _ (by rfl) bq_ 0 (by rfl) (ic y2) _ (by exact (OQ.out.alloc (.cells (iA y1) 49)).part 0 _ (by rfl)) Tryz.underlying49 (by rfl) (by kernel_rfl) ?_)
        | (go_at_call 29; refine (CSL _ _ _ RP1.out RP2.out).out.mono ?_; rintro e wz ⟨rfl, hb⟩; have hb3 := HB2.out.trans (hb.mono HB2.out.size); replace O13 := Lib.hid (O13.out.later hb3); replace BEL := Lib.hid (BEL.out.trans (hb3.mono BEL.out.size)); clear hb hb3)
        | fail)
    have l13 := O13.out.cell
    have z13 := O13.out.lt
    go_wp2_with fail
    go_ret
    exact ⟨rfl, BEL.out⟩
  · have qid : (id.toList == z.id.toList) = false := tl_ne.2 hii
    have hoo := HOTH.out hii
    rw [hoo] at CST2
    have OK2 := OK1
    clear hii HOTH hoo HOK2
    generalize hst1 : standsS s id = yt1 at *
    obtain ⟨y1, t1⟩ := yt1
    clear hst1
    have CSL := fun va vb w' h1 h2 => Lib.hid (show Calls Tryz.prog 29 #[va, vb] w' (fun e w'' => e = .returned (.bool true) ∧ Below w'.heap.size w' w'') from (show sameL sameT [y1] [y1] = true by simp [sameL, HSS.out]) ▸ sameList_calls sameT sameT_calls [y1] [y1] va vb w' h1 h2)
    clear HSS
    go_upto_region 26 with (first
        | (refine wpList_load_mid (by rfl) 46 _ (by rfl) w1.heap.size 0 (by rfl) (stA s (.slice oa1 s.f.kids.length ca1) (.slice ob1 s.store.length cb1) (.slice oc1 s.out.length cc1) (.slice od1 s.k.l.length cd1)).toList _ (by exact O1.out.part 0 _ (by rfl)) Tryz.underlying46 (by rfl) (by kernel_rfl) ?_)
        | (go_at_call 27; refine (CST1 _ _ _ _ _ X1.out).out.mono ?_; rintro e wg ⟨rfl, hb⟩; replace OA := Lib.hid (OA.out.later hb); replace OR := Lib.hid (OR.out.later hb); replace O6 := Lib.hid (O6.out.later hb); replace O1 := Lib.hid (O1.out.later hb); replace O13 := Lib.hid (O13.out.later hb); replace O2 := Lib.hid (O2.out.later hb); replace X1 := Lib.hid (X1.out.later hb); replace X2 := Lib.hid (X2.out.later hb); replace BEL := Lib.hid (BEL.out.trans (Below.mono hb BEL.out.size)); clear hb)
        | fail)
    clear CST1
    have OP := Lib.hid (Own.new wg (iA y1) 49)
    have hb9 : Below wg.heap.size wg (wg.alloc (.cells (iA y1) 49)) := (Below.refl _ _).alloc (Nat.le_refl _) _
    replace OA := Lib.hid (OA.out.later hb9)
    replace OR := Lib.hid (OR.out.later hb9)
    replace O6 := Lib.hid (O6.out.later hb9)
    replace O1 := Lib.hid (O1.out.later hb9)
    replace O13 := Lib.hid (O13.out.later hb9)
    replace O2 := Lib.hid (O2.out.later hb9)
    replace X1 := Lib.hid (X1.out.later hb9)
    replace X2 := Lib.hid (X2.out.later hb9)
    replace BEL := Lib.hid (BEL.out.trans (Below.mono hb9 BEL.out.size))
    clear hb9
    revert BEL
    revert OA
    revert OR
    revert O6
    revert O1
    revert O13
    revert O2
    revert X1
    revert X2
    revert OP
    generalize World.alloc _ _ = VOP
    generalize wg.heap.size = bp_ at *
    intro OP X2 X1 O2 O13 O1 O6 OR OA BEL
    try simp only [Act.put]
    go_upto_region 27 with (first
        | (refine wpList_load_mid (by rfl) 46 _ (by rfl) w2.heap.size 0 (by rfl) (stA U (.slice oa2 U.f.kids.length ca2) (.slice ob2 U.store.length cb2) (.slice oc2 U.out.length cc2) (.slice od2 U.k.l.length cd2)).toList _ (by exact O2.out.part 0 _ (by rfl)) Tryz.underlying46 (by rfl) (by kernel_rfl) ?_)
        | (go_at_call 27; refine (CST2 _ _ _ _ _ X2.out).out.mono ?_; rintro e wg ⟨rfl, hb⟩; replace OA := Lib.hid (OA.out.later hb); replace OR := Lib.hid (OR.out.later hb); replace O6 := Lib.hid (O6.out.later hb); replace O1 := Lib.hid (O1.out.later hb); replace O13 := Lib.hid (O13.out.later hb); replace O2 := Lib.hid (O2.out.later hb); replace OP := Lib.hid (OP.out.later hb); replace X1 := Lib.hid (X1.out.later hb); replace X2 := Lib.hid (X2.out.later hb); replace BEL := Lib.hid (BEL.out.trans (Below.mono hb BEL.out.size)); clear hb)
        | fail)
    clear CST2
    have OQ := Lib.hid (Own.new wg (iA y1) 49)
    have hb9 : Below wg.heap.size wg (wg.alloc (.cells (iA y1) 49)) := (Below.refl _ _).alloc (Nat.le_refl _) _
    replace OA := Lib.hid (OA.out.later hb9)
    replace OR := Lib.hid (OR.out.later hb9)
    replace O6 := Lib.hid (O6.out.later hb9)
    replace O1 := Lib.hid (O1.out.later hb9)
    replace O13 := Lib.hid (O13.out.later hb9)
    replace O2 := Lib.hid (O2.out.later hb9)
    replace OP := Lib.hid (OP.out.later hb9)
    replace X1 := Lib.hid (X1.out.later hb9)
    replace X2 := Lib.hid (X2.out.later hb9)
    replace BEL := Lib.hid (BEL.out.trans (Below.mono hb9 BEL.out.size))
    clear hb9
    revert BEL
    revert OA
    revert OR
    revert O6
    revert O1
    revert O13
    revert O2
    revert OP
    revert X1
    revert X2
    revert OQ
    generalize World.alloc _ _ = VOQ
    generalize wg.heap.size = bq_ at *
    intro OQ X2 X1 OP O2 O13 O1 O6 OR OA BEL
    try simp only [Act.put]
    have HB2 := Lib.hid (show Below VOQ.heap.size VOQ ((VOQ.alloc (.cells (iA y1) 49)).alloc (.cells (iA y1) 49)) from ((Below.refl _ _).alloc (Nat.le_refl _) _).alloc (by simp) _)
    have RP1 := Lib.hid ((row_oneI VOQ y1 49 OK1.out).later ((Below.refl _ _).alloc (Nat.le_refl _) (.cells (iA y1) 49)))
    have RP2 : Hid (Row 8 ic ((VOQ.alloc (.cells (iA y1) 49)).alloc (.cells (iA y1) 49)) [y1] (.slice (some ⟨VOQ.heap.size + 1, 0, none⟩) 1 1)) := by
      have h := row_oneI (VOQ.alloc (.cells (iA y1) 49)) y1 49 OK2.out
      rw [show (VOQ.alloc (.cells (iA y1) 49)).heap.size = VOQ.heap.size + 1 by simp] at h
      exact h
    go_upto_region 28 with (first
        | (refine wpList_load_mid (by rfl) 49 _ (by rfl) bp_ 0 (by rfl) (ic y1) _ (by exact OP.out.part 0 _ (by rfl)) Tryz.underlying49 (by rfl) (by kernel_rfl) ?_)
        | (refine wpList_load_mid (by rfl) 49 _ (by rfl) bp_ 0 (by rfl) (ic y1) _ (by exact (OP.out.alloc (.cells (iA y1) 49)).part 0 _ (by rfl)) Tryz.underlying49 (by rfl) (by kernel_rfl) ?_)
        | (refine wpList_load_mid (by rfl) 49 _ (by rfl) bq_ 0 (by rfl) (ic y1) _ (by exact OQ.out.part 0 _ (by rfl)) Tryz.underlying49 (by rfl) (by kernel_rfl) ?_)
        | (refine wpList_load_mid (by rfl) 49 _ (by rfl) bq_ 0 (by rfl) (ic y1) _ (by exact (OQ.out.alloc (.cells (iA y1) 49)).part 0 _ (by rfl)) Tryz.underlying49 (by rfl) (by kernel_rfl) ?_)
        | (go_at_call 29; refine (CSL _ _ _ RP1.out RP2.out).out.mono ?_; rintro e wz ⟨rfl, hb⟩; have hb3 := HB2.out.trans (hb.mono HB2.out.size); replace O13 := Lib.hid (O13.out.later hb3); replace BEL := Lib.hid (BEL.out.trans (hb3.mono BEL.out.size)); clear hb hb3)
        | fail)
    have l13 := O13.out.cell
    have z13 := O13.out.lt
    have qt : (t1 == t1) = true := beq_self_eq_true t1
    go_wp2_with fail
    go_ret
    exact ⟨rfl, BEL.out⟩
end Go.Proofs.YtjkcooakddlppaaGreat
