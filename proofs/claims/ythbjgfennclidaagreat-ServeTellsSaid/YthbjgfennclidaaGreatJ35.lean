/- Joined: RefMs. -/
import Derived.Test.YthbjgfennclidaaGreatJ31
import Derived.Test.YthbjgfennclidaaGreatJ08
import Derived.Test.YthbjgfennclidaaGreatJ22
import Derived.Test.YthbjgfennclidaaGreatJ10
import Derived.Deep.DeepCutAuto
/- The document's Same of sessions and messages, of two that are alike. Walked. -/
namespace Go.Proofs.YthbjgfennclidaaGreat
set_option linter.unusedVariables false
set_option linter.unusedSimpArgs false
set_option maxRecDepth 100000
open Go Go.RowKit
theorem GAt.range {α : Type} {sz : Nat} {f : α → List Value} {w0 w wL : World} {T : Nat → Prop} {l : List α} {cap b o k : Nat} {i : α} (h : GAt sz f w0 l (some ⟨b, o, none⟩) cap b o) (hb : Below w0.heap.size w0 w) (hL : But T w wL) (hT : ∀ b, b < w0.heap.size → ¬ T b) (hi : l[k]? = some i) : wL.rangeAt b (o + k * sz) (f i) := fun j v hv => by
  have hlt : b < w0.heap.size := (h.at0 (by have := some_posI hi; omega)).2
  exact (hL.cell (Nat.lt_of_lt_of_le hlt hb.size) (hT b hlt)).trans ((hb.cell (p := ⟨b, o + k * sz + j, none⟩) hlt).trans (h.cell k i hi j v hv))
set_option maxRecDepth 100000 in
set_option maxHeartbeats 4000000 in
theorem refEntry_same (e : En) (w : World) (he : sameT e.x e.x = true) :
    Calls Tryz.prog 139 #[.agg (eA e), .agg (eA e)] w fun r w' => r = .returned (.bool true) ∧ Below w.heap.size w w' := by
  have OA := Lib.hid ((Own.new w (eA e) 70).alloc (.cells (eA e) 70))
  have OB := Lib.hid (Own.newAt (w.alloc (.cells (eA e) 70)) (eA e) 70 (b := w.heap.size + 1) (by simp))
  have BEL := Lib.hid (((Below.refl w.heap.size w).alloc (Nat.le_refl _) (.cells (eA e) 70)).alloc (by simp) (.cells (eA e) 70))
  have CS := fun w' => Lib.hid (show Calls Tryz.prog 138 #[iV e.x, iV e.x] w' (fun r w'' => r = .returned (.bool true) ∧ Below w'.heap.size w' w'') from he ▸ sameT_calls e.x e.x w')
  clear he
  have lA := OA.out.cell
  have zA := OA.out.lt
  have lB := OB.out.cell
  have zB := OB.out.lt
  go_enter Tryz.func139, Tryz.ntmps139
  go_wp2_with (first
    | (refine wpList_load_mid (by rfl) 68 _ (by rfl) w.heap.size 0 (by rfl) (ic e.x) _ (OA.out.part 0 _ (by rfl)) Tryz.underlying68 (by rfl) (by kernel_rfl) ?_)
    | (refine wpList_load_mid (by rfl) 68 _ (by rfl) (w.heap.size + 1) 0 (by rfl) (ic e.x) _ (OB.out.part 0 _ (by rfl)) Tryz.underlying68 (by rfl) (by kernel_rfl) ?_)
    | (go_at_call 138; (with_reducible refine (CS _).out.mono ?_); rintro e1 w1 ⟨rfl, hb⟩; clear lA zA lB zB; replace OA := Lib.hid (OA.out.later hb); replace OB := Lib.hid (OB.out.later hb); replace BEL := Lib.hid (BEL.out.trans (hb.mono BEL.out.size)); clear hb; have lA := OA.out.cell; have zA := OA.out.lt; have lB := OB.out.cell; have zB := OB.out.lt)
    | fail)
  go_ret
  exact ⟨rfl, BEL.out⟩
def SeRel (w : World) (len : Nat) (i : Value) (wr : World) : Prop := ∃ k : Nat, k ≤ len ∧ i = .int .i64 k ∧ Hid (Below w.heap.size w wr)
set_option maxRecDepth 100000 in
set_option maxHeartbeats 4000000 in
theorem refEntries_same (l : List En) (v v' : Value) (w : World) (hR : GRow 11 ec w l v) (hM : GRow 11 ec w l v') (he : ∀ e ∈ l, sameT e.x e.x = true) (hlen : l.length ≤ 100000) :
    Calls Tryz.prog 87 #[v, v'] w fun r w' => r = .returned (.bool true) ∧ Below w.heap.size w w' := by
  obtain ⟨oa, cap, b, o, rfl, hR⟩ := hR
  obtain ⟨oa', cap', b', o', rfl, hM⟩ := hM
  have HR := Lib.hid hR
  have HM := Lib.hid hM
  have HE := Lib.hid he
  have hcap := hR.len
  have hmax := hR.max
  have hcap' := hM.len
  have hmax' := hM.max
  unfold maxLen at hmax hmax'
  clear hR hM he
  generalize hl : l.length = len at *
  have HLEN := Lib.hid hl
  clear hl
  go_enter Tryz.func87, Tryz.ntmps87
  go_wp2_with fail
  go_loopw [5] (fun i wr => SeRel w len i wr) (fun i _ => len - (intOf i).toNat)
  case atStart => exact ⟨0, Nat.zero_le _, rfl, Lib.hid (Below.refl _ _)⟩
  case round =>
    obtain ⟨k, hk, rfl, BEL⟩ := hrel
    by_cases hlt : k < len
    · obtain ⟨e, hi⟩ : ∃ e, l[k]? = some e := ⟨_, List.getElem?_eq_getElem (by rw [HLEN.out]; exact hlt)⟩
      obtain ⟨rfl, hb0⟩ := HR.out.at0 (by rw [HLEN.out]; omega)
      obtain ⟨rfl, hb1⟩ := HM.out.at0 (by rw [HLEN.out]; omega)
      have HI := Lib.hid hi
      have CE := fun w' => Lib.hid (refEntry_same e w' (HE.out e (List.mem_of_getElem? hi)))
      have k0 : (0 : Int) ≤ (k : Int) := by omega
      have k1 : (k : Int) < (len : Int) := by omega
      clear hi
      go_upto_region 6 with fail
      refine monoN_start (T := fun _ => False) (D := fun _ => false) (by kernel_rfl) (fun wd hbd => ?_)
      replace BEL := Lib.hid (BEL.out.trans (Below.mono hbd BEL.out.size))
      clear hbd
      refine monoN_stay (i := 0) (v := ?_) rfl (by kernel_rfl) (by kernel_rfl) (by kernel_rfl) (fun _ _ _ h => h) (Or.inl ⟨by rfl, ?_⟩) ?_
      rotate_left 1
      · (intro wL hL; go_simp; try with_reducible rfl)
      try simp only [Act.put, List.getElem_toArray, List.getElem_cons_zero, List.getElem_cons_succ, List.setIfInBounds_toArray, List.set_cons_zero, List.set_cons_succ]
      refine monoN_stay (i := 1) (v := ?_) rfl (by kernel_rfl) (by kernel_rfl) (by kernel_rfl) (fun _ _ _ h => h) (Or.inl ⟨by rfl, ?_⟩) ?_
      rotate_left 1
      · (intro wL hL; go_simp; try with_reducible rfl)
      try simp only [Act.put, List.getElem_toArray, List.getElem_cons_zero, List.getElem_cons_succ, List.setIfInBounds_toArray, List.set_cons_zero, List.set_cons_succ]
      refine monoN_stay (i := 2) (v := ?_) rfl (by kernel_rfl) (by kernel_rfl) (by kernel_rfl) (fun _ _ _ h => h) (Or.inl ⟨by rfl, ?_⟩) ?_
      rotate_left 1
      · (intro wL hL; go_simp; try with_reducible rfl)
      try simp only [Act.put, List.getElem_toArray, List.getElem_cons_zero, List.getElem_cons_succ, List.setIfInBounds_toArray, List.set_cons_zero, List.set_cons_succ]
      refine monoN_stay (i := 3) (v := .agg (eA e)) rfl (by kernel_rfl) (by kernel_rfl) (by kernel_rfl) (fun _ _ _ h => h) (Or.inl ⟨by rfl, fun wL hL => exec_load_mid 70 _ rfl (b) (o + k * 11) (by rfl) ((eA e) : Array Value).toList _ (HR.out.range (k := k) BEL.out hL (fun _ _ h => h) HI.out) Tryz.underlying70 (by rfl) (by kernel_rfl)⟩) ?_
      try simp only [Act.put, List.getElem_toArray, List.getElem_cons_zero, List.getElem_cons_succ, List.setIfInBounds_toArray, List.set_cons_zero, List.set_cons_succ]
      refine monoN_stay (i := 4) (v := ?_) rfl (by kernel_rfl) (by kernel_rfl) (by kernel_rfl) (fun _ _ _ h => h) (Or.inl ⟨by rfl, ?_⟩) ?_
      rotate_left 1
      · (intro wL hL; go_simp; try with_reducible rfl)
      try simp only [Act.put, List.getElem_toArray, List.getElem_cons_zero, List.getElem_cons_succ, List.setIfInBounds_toArray, List.set_cons_zero, List.set_cons_succ]
      refine monoN_stay (i := 5) (v := ?_) rfl (by kernel_rfl) (by kernel_rfl) (by kernel_rfl) (fun _ _ _ h => h) (Or.inl ⟨by rfl, ?_⟩) ?_
      rotate_left 1
      · (intro wL hL; go_simp; try with_reducible rfl)
      try simp only [Act.put, List.getElem_toArray, List.getElem_cons_zero, List.getElem_cons_succ, List.setIfInBounds_toArray, List.set_cons_zero, List.set_cons_succ]
      refine monoN_stay (i := 6) (v := ?_) rfl (by kernel_rfl) (by kernel_rfl) (by kernel_rfl) (fun _ _ _ h => h) (Or.inl ⟨by rfl, ?_⟩) ?_
      rotate_left 1
      · (intro wL hL; go_simp; try with_reducible rfl)
      try simp only [Act.put, List.getElem_toArray, List.getElem_cons_zero, List.getElem_cons_succ, List.setIfInBounds_toArray, List.set_cons_zero, List.set_cons_succ]
      refine monoN_stay (i := 7) (v := .agg (eA e)) rfl (by kernel_rfl) (by kernel_rfl) (by kernel_rfl) (fun _ _ _ h => h) (Or.inl ⟨by rfl, fun wL hL => exec_load_mid 70 _ rfl (b') (o' + k * 11) (by rfl) ((eA e) : Array Value).toList _ (HM.out.range (k := k) BEL.out hL (fun _ _ h => h) HI.out) Tryz.underlying70 (by rfl) (by kernel_rfl)⟩) ?_
      try simp only [Act.put, List.getElem_toArray, List.getElem_cons_zero, List.getElem_cons_succ, List.setIfInBounds_toArray, List.set_cons_zero, List.set_cons_succ]
      refine monoN_r1 (i := 8) (by kernel_rfl) ?_
      refine stepN_call (by rfl) (by rfl) (fun K hK => ?_)
      try simp only [List.getElem_toArray, List.getElem_cons_zero, List.getElem_cons_succ]
      (go_simp; go_at_call 139; (with_reducible refine (CE _).out.mono ?_); rintro e1 wc ⟨rfl, hb⟩)
      try go_wp2_with fail
      refine hK.out _ _ (fun _ => hb) (But.of hb) ?_
      clear hK K
      replace BEL := Lib.hid (BEL.out.trans (Below.mono hb BEL.out.size))
      clear hb
      try simp only [Act.put, List.getElem_toArray, List.getElem_cons_zero, List.getElem_cons_succ, List.setIfInBounds_toArray, List.set_cons_zero, List.set_cons_succ]
      refine monoN_stay (i := 9) (v := ?_) rfl (by kernel_rfl) (by kernel_rfl) (by kernel_rfl) (fun _ _ _ h => h) (Or.inl ⟨by rfl, ?_⟩) ?_
      rotate_left 1
      · (intro wL hL; go_simp; try with_reducible rfl)
      try simp only [Act.put, List.getElem_toArray, List.getElem_cons_zero, List.getElem_cons_succ, List.setIfInBounds_toArray, List.set_cons_zero, List.set_cons_succ]
      refine monoN_done (by kernel_rfl) ?_ _
      go_wp2_with fail
      go_roundw
      case rel => exact ⟨k + 1, by omega, by go_num, BEL⟩
      case measure => simp [intOf]; omega
    · have e : k = len := by omega
      subst e
      go_wp2_with fail
      go_ret
      exact ⟨rfl, BEL.out⟩
structure SmS (w : World) (A B : Array Value) (T : TypeId) (wr : World) : Prop where
  a : Own wr w.heap.size A T
  b : Own wr (w.heap.size + 1) B T
  be : Below w.heap.size w wr
def SmRel (w : World) (A B : Array Value) (T : TypeId) (len : Nat) (i : Value) (wr : World) : Prop := ∃ k : Nat, k ≤ len ∧ i = .int .i64 k ∧ Hid (SmS w A B T wr)
set_option maxRecDepth 100000 in
set_option maxHeartbeats 8000000 in
theorem refMsg_same (m : Mg) (fv kv hv lv fv' kv' hv' lv' : Value) (w : World) (hA : MgW w m fv kv hv lv) (hB : MgW w m fv' kv' hv' lv') (hf : Pr.same m.f m.f = true) (he : ∀ e ∈ m.l, sameT e.x e.x = true) (hlen : m.l.length ≤ 100000) (hgl : m.has.length ≤ 100000) :
    Calls Tryz.prog 36 #[.agg (mgA m fv kv hv lv), .agg (mgA m fv' kv' hv' lv')] w fun r w' => r = .returned (.bool true) ∧ Below w.heap.size w w' := by
  obtain ⟨oh, ch, bh, qh, rfl, hG⟩ := hA.lh
  obtain ⟨oh', ch', bh', qh', rfl, hG'⟩ := hB.lh
  obtain ⟨of_, cf, rfl⟩ := lies_val hA.lf
  obtain ⟨of', cf', rfl⟩ := lies_val hB.lf
  obtain ⟨ok, ck, rfl⟩ := hA.lk.val
  obtain ⟨ok', ck', rfl⟩ := hB.lk.val
  obtain ⟨ol, cl, rfl⟩ := hA.ll.val
  obtain ⟨ol', cl', rfl⟩ := hB.ll.val
  have HG : Hid (GAt 4 hc w m.has oh ch bh qh) := Lib.hid ⟨hG.len, hG.max, hG.at0, hG.cell⟩
  have HG' : Hid (GAt 4 hc w m.has oh' ch' bh' qh') := Lib.hid ⟨hG'.len, hG'.max, hG'.at0, hG'.cell⟩
  have HA := Lib.hid hA
  have HB := Lib.hid hB
  have hcap := hG.len
  have hmax := hG.max
  have hcap' := hG'.len
  have hmax' := hG'.max
  unfold maxLen at hmax hmax'
  have OA := Lib.hid ((Own.new w (mgA m (.slice of_ m.f.kids.length cf) (.slice ok m.k.l.length ck) (.slice oh m.has.length ch) (.slice ol m.l.length cl)) 47).alloc (.cells (mgA m (.slice of' m.f.kids.length cf') (.slice ok' m.k.l.length ck') (.slice oh' m.has.length ch') (.slice ol' m.l.length cl')) 47))
  have OB := Lib.hid (Own.newAt (w.alloc (.cells (mgA m (.slice of_ m.f.kids.length cf) (.slice ok m.k.l.length ck) (.slice oh m.has.length ch) (.slice ol m.l.length cl)) 47)) (mgA m (.slice of' m.f.kids.length cf') (.slice ok' m.k.l.length ck') (.slice oh' m.has.length ch') (.slice ol' m.l.length cl')) 47 (b := w.heap.size + 1) (by simp))
  have BEL := Lib.hid (((Below.refl w.heap.size w).alloc (Nat.le_refl _) (.cells (mgA m (.slice of_ m.f.kids.length cf) (.slice ok m.k.l.length ck) (.slice oh m.has.length ch) (.slice ol m.l.length cl)) 47)).alloc (by simp) (.cells (mgA m (.slice of' m.f.kids.length cf') (.slice ok' m.k.l.length ck') (.slice oh' m.has.length ch') (.slice ol' m.l.length cl')) 47))
  have CF := fun w' h h' => Lib.hid (show Calls Tryz.prog 84 #[prV m.f (.slice of_ m.f.kids.length cf), prV m.f (.slice of' m.f.kids.length cf')] w' (fun r w'' => r = .returned (.bool true) ∧ Below w'.heap.size w' w'') from hf ▸ refSame_any m.f m.f _ _ w' h h')
  have CK := fun w' h h' => Lib.hid (show Calls Tryz.prog 86 #[knV m.k.star (.slice ok m.k.l.length ck), knV m.k.star (.slice ok' m.k.l.length ck')] w' (fun r w'' => r = .returned (.bool true) ∧ Below w'.heap.size w' w'') from alike_refl m.k ▸ alike_calls m.k m.k _ _ w' h h')
  have CL := fun w' h h' => Lib.hid (refEntries_same m.l (.slice ol m.l.length cl) (.slice ol' m.l.length cl') w' h h' he hlen)
  clear hG hG' hA hB he hlen hf
  generalize hgn : m.has.length = len at *
  have HLEN := Lib.hid hgn
  clear hgn
  have lA := OA.out.cell
  have zA := OA.out.lt
  have lB := OB.out.cell
  have zB := OB.out.lt
  go_enter Tryz.func36, Tryz.ntmps36
  go_wp2_with fail
  go_loopw [5] (fun i wr => SmRel w (mgA m (.slice of_ m.f.kids.length cf) (.slice ok m.k.l.length ck) (.slice oh len ch) (.slice ol m.l.length cl)) (mgA m (.slice of' m.f.kids.length cf') (.slice ok' m.k.l.length ck') (.slice oh' len ch') (.slice ol' m.l.length cl')) 47 len i wr) (fun i _ => len - (intOf i).toNat)
  case atStart => exact ⟨0, Nat.zero_le _, rfl, Lib.hid ⟨OA.out, OB.out, BEL.out⟩⟩
  case round =>
    clear OA OB BEL lA zA lB zB
    obtain ⟨k, hk, rfl, AS⟩ := hrel
    have OA := Lib.hid AS.out.a
    have OB := Lib.hid AS.out.b
    have BEL := Lib.hid AS.out.be
    clear AS
    have lA := OA.out.cell
    have zA := OA.out.lt
    have lB := OB.out.cell
    have zB := OB.out.lt
    by_cases hlt : k < len
    · obtain ⟨q, hi⟩ : ∃ q, m.has[k]? = some q := ⟨_, List.getElem?_eq_getElem (by rw [HLEN.out]; exact hlt)⟩
      obtain ⟨rfl, hb0⟩ := HG.out.at0 (by rw [HLEN.out]; omega)
      obtain ⟨rfl, hb1⟩ := HG'.out.at0 (by rw [HLEN.out]; omega)
      have HI := Lib.hid hi
      have k0 : (0 : Int) ≤ (k : Int) := by omega
      have k1 : (k : Int) < (len : Int) := by omega
      clear hi
      go_upto_region 6 with fail
      clear lA zA lB zB
      refine monoN_start (T := fun _ => False) (D := fun _ => false) (by kernel_rfl) (fun wd hbd => ?_)
      replace OA := Lib.hid (OA.out.later hbd)
      replace OB := Lib.hid (OB.out.later hbd)
      replace BEL := Lib.hid (BEL.out.trans (Below.mono hbd BEL.out.size))
      clear hbd
      refine monoN_stay (i := 0) (v := ?_) rfl (by kernel_rfl) (by kernel_rfl) (by kernel_rfl) (fun _ _ _ h => h) (Or.inl ⟨by rfl, ?_⟩) ?_
      rotate_left 1
      · (intro wL hL; go_simp; try with_reducible rfl)
      try simp only [Act.put, List.getElem_toArray, List.getElem_cons_zero, List.getElem_cons_succ, List.setIfInBounds_toArray, List.set_cons_zero, List.set_cons_succ]
      refine monoN_stay (i := 1) (v := ?_) rfl (by kernel_rfl) (by kernel_rfl) (by kernel_rfl) (fun _ _ _ h => h) (Or.inl ⟨by rfl, ?_⟩) ?_
      rotate_left 1
      · (intro wL hL; have lL := (OA.out.but hL (fun h => h)).cell; have zL := (OA.out.but hL (fun h => h)).lt; go_simp; try with_reducible rfl)
      try simp only [Act.put, List.getElem_toArray, List.getElem_cons_zero, List.getElem_cons_succ, List.setIfInBounds_toArray, List.set_cons_zero, List.set_cons_succ]
      refine monoN_stay (i := 2) (v := ?_) rfl (by kernel_rfl) (by kernel_rfl) (by kernel_rfl) (fun _ _ _ h => h) (Or.inl ⟨by rfl, ?_⟩) ?_
      rotate_left 1
      · (intro wL hL; go_simp; try with_reducible rfl)
      try simp only [Act.put, List.getElem_toArray, List.getElem_cons_zero, List.getElem_cons_succ, List.setIfInBounds_toArray, List.set_cons_zero, List.set_cons_succ]
      refine monoN_stay (i := 3) (v := ?_) rfl (by kernel_rfl) (by kernel_rfl) (by kernel_rfl) (fun _ _ _ h => h) (Or.inl ⟨by rfl, ?_⟩) ?_
      rotate_left 1
      · (intro wL hL; go_simp; try with_reducible rfl)
      try simp only [Act.put, List.getElem_toArray, List.getElem_cons_zero, List.getElem_cons_succ, List.setIfInBounds_toArray, List.set_cons_zero, List.set_cons_succ]
      refine monoN_stay (i := 4) (v := ?_) rfl (by kernel_rfl) (by kernel_rfl) (by kernel_rfl) (fun _ _ _ h => h) (Or.inl ⟨by rfl, ?_⟩) ?_
      rotate_left 1
      · (intro wL hL; go_simp; try with_reducible rfl)
      try simp only [Act.put, List.getElem_toArray, List.getElem_cons_zero, List.getElem_cons_succ, List.setIfInBounds_toArray, List.set_cons_zero, List.set_cons_succ]
      refine monoN_stay (i := 5) (v := ?_) rfl (by kernel_rfl) (by kernel_rfl) (by kernel_rfl) (fun _ _ _ h => h) (Or.inl ⟨by rfl, ?_⟩) ?_
      rotate_left 1
      · (intro wL hL; have cL := HG.out.range (k := k) BEL.out hL (fun _ _ h => h) HI.out; have c0 := cL 0 _ rfl; have c1 := cL 1 _ rfl; have c2 := cL 2 _ rfl; have c3 := cL 3 _ rfl; have zi : bh < wL.heap.size := Nat.lt_of_lt_of_le (Nat.lt_of_lt_of_le hb0 BEL.out.size) hL.size; simp only [Nat.mul_one, Nat.add_zero] at c0 c1 c2 c3; go_simp; try with_reducible rfl)
      try simp only [Act.put, List.getElem_toArray, List.getElem_cons_zero, List.getElem_cons_succ, List.setIfInBounds_toArray, List.set_cons_zero, List.set_cons_succ]
      refine monoN_stay (i := 6) (v := ?_) rfl (by kernel_rfl) (by kernel_rfl) (by kernel_rfl) (fun _ _ _ h => h) (Or.inl ⟨by rfl, ?_⟩) ?_
      rotate_left 1
      · (intro wL hL; go_simp; try with_reducible rfl)
      try simp only [Act.put, List.getElem_toArray, List.getElem_cons_zero, List.getElem_cons_succ, List.setIfInBounds_toArray, List.set_cons_zero, List.set_cons_succ]
      refine monoN_stay (i := 7) (v := ?_) rfl (by kernel_rfl) (by kernel_rfl) (by kernel_rfl) (fun _ _ _ h => h) (Or.inl ⟨by rfl, ?_⟩) ?_
      rotate_left 1
      · (intro wL hL; have lL := (OB.out.but hL (fun h => h)).cell; have zL := (OB.out.but hL (fun h => h)).lt; go_simp; try with_reducible rfl)
      try simp only [Act.put, List.getElem_toArray, List.getElem_cons_zero, List.getElem_cons_succ, List.setIfInBounds_toArray, List.set_cons_zero, List.set_cons_succ]
      refine monoN_stay (i := 8) (v := ?_) rfl (by kernel_rfl) (by kernel_rfl) (by kernel_rfl) (fun _ _ _ h => h) (Or.inl ⟨by rfl, ?_⟩) ?_
      rotate_left 1
      · (intro wL hL; go_simp; try with_reducible rfl)
      try simp only [Act.put, List.getElem_toArray, List.getElem_cons_zero, List.getElem_cons_succ, List.setIfInBounds_toArray, List.set_cons_zero, List.set_cons_succ]
      refine monoN_stay (i := 9) (v := ?_) rfl (by kernel_rfl) (by kernel_rfl) (by kernel_rfl) (fun _ _ _ h => h) (Or.inl ⟨by rfl, ?_⟩) ?_
      rotate_left 1
      · (intro wL hL; go_simp; try with_reducible rfl)
      try simp only [Act.put, List.getElem_toArray, List.getElem_cons_zero, List.getElem_cons_succ, List.setIfInBounds_toArray, List.set_cons_zero, List.set_cons_succ]
      refine monoN_stay (i := 10) (v := ?_) rfl (by kernel_rfl) (by kernel_rfl) (by kernel_rfl) (fun _ _ _ h => h) (Or.inl ⟨by rfl, ?_⟩) ?_
      rotate_left 1
      · (intro wL hL; go_simp; try with_reducible rfl)
      try simp only [Act.put, List.getElem_toArray, List.getElem_cons_zero, List.getElem_cons_succ, List.setIfInBounds_toArray, List.set_cons_zero, List.set_cons_succ]
      refine monoN_stay (i := 11) (v := ?_) rfl (by kernel_rfl) (by kernel_rfl) (by kernel_rfl) (fun _ _ _ h => h) (Or.inl ⟨by rfl, ?_⟩) ?_
      rotate_left 1
      · (intro wL hL; have cL := HG'.out.range (k := k) BEL.out hL (fun _ _ h => h) HI.out; have c0 := cL 0 _ rfl; have c1 := cL 1 _ rfl; have c2 := cL 2 _ rfl; have c3 := cL 3 _ rfl; have zi : bh' < wL.heap.size := Nat.lt_of_lt_of_le (Nat.lt_of_lt_of_le hb1 BEL.out.size) hL.size; simp only [Nat.mul_one, Nat.add_zero] at c0 c1 c2 c3; go_simp; try with_reducible rfl)
      try simp only [Act.put, List.getElem_toArray, List.getElem_cons_zero, List.getElem_cons_succ, List.setIfInBounds_toArray, List.set_cons_zero, List.set_cons_succ]
      refine monoN_stay (i := 12) (v := ?_) rfl (by kernel_rfl) (by kernel_rfl) (by kernel_rfl) (fun _ _ _ h => h) (Or.inl ⟨by rfl, ?_⟩) ?_
      rotate_left 1
      · (intro wL hL; go_simp; try with_reducible rfl)
      try simp only [Act.put, List.getElem_toArray, List.getElem_cons_zero, List.getElem_cons_succ, List.setIfInBounds_toArray, List.set_cons_zero, List.set_cons_succ]
      refine monoN_stay (i := 13) (v := ?_) rfl (by kernel_rfl) (by kernel_rfl) (by kernel_rfl) (fun _ _ _ h => h) (Or.inl ⟨by rfl, ?_⟩) ?_
      rotate_left 1
      · (intro wL hL; go_simp; try with_reducible rfl)
      try simp only [Act.put, List.getElem_toArray, List.getElem_cons_zero, List.getElem_cons_succ, List.setIfInBounds_toArray, List.set_cons_zero, List.set_cons_succ]
      refine monoN_stay (i := 14) (v := ?_) rfl (by kernel_rfl) (by kernel_rfl) (by kernel_rfl) (fun _ _ _ h => h) (Or.inl ⟨by rfl, ?_⟩) ?_
      rotate_left 1
      · (intro wL hL; go_simp; try with_reducible rfl)
      try simp only [Act.put, List.getElem_toArray, List.getElem_cons_zero, List.getElem_cons_succ, List.setIfInBounds_toArray, List.set_cons_zero, List.set_cons_succ]
      refine monoN_stay (i := 15) (v := ?_) rfl (by kernel_rfl) (by kernel_rfl) (by kernel_rfl) (fun _ _ _ h => h) (Or.inl ⟨by rfl, ?_⟩) ?_
      rotate_left 1
      · (intro wL hL; have lL := (OA.out.but hL (fun h => h)).cell; have zL := (OA.out.but hL (fun h => h)).lt; go_simp; try with_reducible rfl)
      try simp only [Act.put, List.getElem_toArray, List.getElem_cons_zero, List.getElem_cons_succ, List.setIfInBounds_toArray, List.set_cons_zero, List.set_cons_succ]
      refine monoN_stay (i := 16) (v := ?_) rfl (by kernel_rfl) (by kernel_rfl) (by kernel_rfl) (fun _ _ _ h => h) (Or.inl ⟨by rfl, ?_⟩) ?_
      rotate_left 1
      · (intro wL hL; go_simp; try with_reducible rfl)
      try simp only [Act.put, List.getElem_toArray, List.getElem_cons_zero, List.getElem_cons_succ, List.setIfInBounds_toArray, List.set_cons_zero, List.set_cons_succ]
      refine monoN_stay (i := 17) (v := ?_) rfl (by kernel_rfl) (by kernel_rfl) (by kernel_rfl) (fun _ _ _ h => h) (Or.inl ⟨by rfl, ?_⟩) ?_
      rotate_left 1
      · (intro wL hL; go_simp; try with_reducible rfl)
      try simp only [Act.put, List.getElem_toArray, List.getElem_cons_zero, List.getElem_cons_succ, List.setIfInBounds_toArray, List.set_cons_zero, List.set_cons_succ]
      refine monoN_stay (i := 18) (v := ?_) rfl (by kernel_rfl) (by kernel_rfl) (by kernel_rfl) (fun _ _ _ h => h) (Or.inl ⟨by rfl, ?_⟩) ?_
      rotate_left 1
      · (intro wL hL; go_simp; try with_reducible rfl)
      try simp only [Act.put, List.getElem_toArray, List.getElem_cons_zero, List.getElem_cons_succ, List.setIfInBounds_toArray, List.set_cons_zero, List.set_cons_succ]
      refine monoN_stay (i := 19) (v := ?_) rfl (by kernel_rfl) (by kernel_rfl) (by kernel_rfl) (fun _ _ _ h => h) (Or.inl ⟨by rfl, ?_⟩) ?_
      rotate_left 1
      · (intro wL hL; have cL := HG.out.range (k := k) BEL.out hL (fun _ _ h => h) HI.out; have c0 := cL 0 _ rfl; have c1 := cL 1 _ rfl; have c2 := cL 2 _ rfl; have c3 := cL 3 _ rfl; have zi : bh < wL.heap.size := Nat.lt_of_lt_of_le (Nat.lt_of_lt_of_le hb0 BEL.out.size) hL.size; simp only [Nat.mul_one, Nat.add_zero] at c0 c1 c2 c3; go_simp; try with_reducible rfl)
      try simp only [Act.put, List.getElem_toArray, List.getElem_cons_zero, List.getElem_cons_succ, List.setIfInBounds_toArray, List.set_cons_zero, List.set_cons_succ]
      refine monoN_stay (i := 20) (v := ?_) rfl (by kernel_rfl) (by kernel_rfl) (by kernel_rfl) (fun _ _ _ h => h) (Or.inl ⟨by rfl, ?_⟩) ?_
      rotate_left 1
      · (intro wL hL; go_simp; try with_reducible rfl)
      try simp only [Act.put, List.getElem_toArray, List.getElem_cons_zero, List.getElem_cons_succ, List.setIfInBounds_toArray, List.set_cons_zero, List.set_cons_succ]
      refine monoN_stay (i := 21) (v := ?_) rfl (by kernel_rfl) (by kernel_rfl) (by kernel_rfl) (fun _ _ _ h => h) (Or.inl ⟨by rfl, ?_⟩) ?_
      rotate_left 1
      · (intro wL hL; have lL := (OB.out.but hL (fun h => h)).cell; have zL := (OB.out.but hL (fun h => h)).lt; go_simp; try with_reducible rfl)
      try simp only [Act.put, List.getElem_toArray, List.getElem_cons_zero, List.getElem_cons_succ, List.setIfInBounds_toArray, List.set_cons_zero, List.set_cons_succ]
      refine monoN_stay (i := 22) (v := ?_) rfl (by kernel_rfl) (by kernel_rfl) (by kernel_rfl) (fun _ _ _ h => h) (Or.inl ⟨by rfl, ?_⟩) ?_
      rotate_left 1
      · (intro wL hL; go_simp; try with_reducible rfl)
      try simp only [Act.put, List.getElem_toArray, List.getElem_cons_zero, List.getElem_cons_succ, List.setIfInBounds_toArray, List.set_cons_zero, List.set_cons_succ]
      refine monoN_stay (i := 23) (v := ?_) rfl (by kernel_rfl) (by kernel_rfl) (by kernel_rfl) (fun _ _ _ h => h) (Or.inl ⟨by rfl, ?_⟩) ?_
      rotate_left 1
      · (intro wL hL; go_simp; try with_reducible rfl)
      try simp only [Act.put, List.getElem_toArray, List.getElem_cons_zero, List.getElem_cons_succ, List.setIfInBounds_toArray, List.set_cons_zero, List.set_cons_succ]
      refine monoN_stay (i := 24) (v := ?_) rfl (by kernel_rfl) (by kernel_rfl) (by kernel_rfl) (fun _ _ _ h => h) (Or.inl ⟨by rfl, ?_⟩) ?_
      rotate_left 1
      · (intro wL hL; go_simp; try with_reducible rfl)
      try simp only [Act.put, List.getElem_toArray, List.getElem_cons_zero, List.getElem_cons_succ, List.setIfInBounds_toArray, List.set_cons_zero, List.set_cons_succ]
      refine monoN_stay (i := 25) (v := ?_) rfl (by kernel_rfl) (by kernel_rfl) (by kernel_rfl) (fun _ _ _ h => h) (Or.inl ⟨by rfl, ?_⟩) ?_
      rotate_left 1
      · (intro wL hL; have cL := HG'.out.range (k := k) BEL.out hL (fun _ _ h => h) HI.out; have c0 := cL 0 _ rfl; have c1 := cL 1 _ rfl; have c2 := cL 2 _ rfl; have c3 := cL 3 _ rfl; have zi : bh' < wL.heap.size := Nat.lt_of_lt_of_le (Nat.lt_of_lt_of_le hb1 BEL.out.size) hL.size; simp only [Nat.mul_one, Nat.add_zero] at c0 c1 c2 c3; go_simp; try with_reducible rfl)
      try simp only [Act.put, List.getElem_toArray, List.getElem_cons_zero, List.getElem_cons_succ, List.setIfInBounds_toArray, List.set_cons_zero, List.set_cons_succ]
      refine monoN_stay (i := 26) (v := ?_) rfl (by kernel_rfl) (by kernel_rfl) (by kernel_rfl) (fun _ _ _ h => h) (Or.inl ⟨by rfl, ?_⟩) ?_
      rotate_left 1
      · (intro wL hL; go_simp; try with_reducible rfl)
      try simp only [Act.put, List.getElem_toArray, List.getElem_cons_zero, List.getElem_cons_succ, List.setIfInBounds_toArray, List.set_cons_zero, List.set_cons_succ]
      refine monoN_stay (i := 27) (v := ?_) rfl (by kernel_rfl) (by kernel_rfl) (by kernel_rfl) (fun _ _ _ h => h) (Or.inl ⟨by rfl, ?_⟩) ?_
      rotate_left 1
      · (intro wL hL; go_simp; try with_reducible rfl)
      try simp only [Act.put, List.getElem_toArray, List.getElem_cons_zero, List.getElem_cons_succ, List.setIfInBounds_toArray, List.set_cons_zero, List.set_cons_succ]
      refine monoN_stay (i := 28) (v := ?_) rfl (by kernel_rfl) (by kernel_rfl) (by kernel_rfl) (fun _ _ _ h => h) (Or.inl ⟨by rfl, ?_⟩) ?_
      rotate_left 1
      · (intro wL hL; go_simp; try with_reducible rfl)
      try simp only [Act.put, List.getElem_toArray, List.getElem_cons_zero, List.getElem_cons_succ, List.setIfInBounds_toArray, List.set_cons_zero, List.set_cons_succ]
      refine monoN_stay (i := 29) (v := ?_) rfl (by kernel_rfl) (by kernel_rfl) (by kernel_rfl) (fun _ _ _ h => h) (Or.inl ⟨by rfl, ?_⟩) ?_
      rotate_left 1
      · (intro wL hL; go_simp; try with_reducible rfl)
      try simp only [Act.put, List.getElem_toArray, List.getElem_cons_zero, List.getElem_cons_succ, List.setIfInBounds_toArray, List.set_cons_zero, List.set_cons_succ]
      refine monoN_stay (i := 30) (v := ?_) rfl (by kernel_rfl) (by kernel_rfl) (by kernel_rfl) (fun _ _ _ h => h) (Or.inl ⟨by rfl, ?_⟩) ?_
      rotate_left 1
      · (intro wL hL; have lL := (OA.out.but hL (fun h => h)).cell; have zL := (OA.out.but hL (fun h => h)).lt; go_simp; try with_reducible rfl)
      try simp only [Act.put, List.getElem_toArray, List.getElem_cons_zero, List.getElem_cons_succ, List.setIfInBounds_toArray, List.set_cons_zero, List.set_cons_succ]
      refine monoN_stay (i := 31) (v := ?_) rfl (by kernel_rfl) (by kernel_rfl) (by kernel_rfl) (fun _ _ _ h => h) (Or.inl ⟨by rfl, ?_⟩) ?_
      rotate_left 1
      · (intro wL hL; go_simp; try with_reducible rfl)
      try simp only [Act.put, List.getElem_toArray, List.getElem_cons_zero, List.getElem_cons_succ, List.setIfInBounds_toArray, List.set_cons_zero, List.set_cons_succ]
      refine monoN_stay (i := 32) (v := ?_) rfl (by kernel_rfl) (by kernel_rfl) (by kernel_rfl) (fun _ _ _ h => h) (Or.inl ⟨by rfl, ?_⟩) ?_
      rotate_left 1
      · (intro wL hL; go_simp; try with_reducible rfl)
      try simp only [Act.put, List.getElem_toArray, List.getElem_cons_zero, List.getElem_cons_succ, List.setIfInBounds_toArray, List.set_cons_zero, List.set_cons_succ]
      refine monoN_stay (i := 33) (v := ?_) rfl (by kernel_rfl) (by kernel_rfl) (by kernel_rfl) (fun _ _ _ h => h) (Or.inl ⟨by rfl, ?_⟩) ?_
      rotate_left 1
      · (intro wL hL; go_simp; try with_reducible rfl)
      try simp only [Act.put, List.getElem_toArray, List.getElem_cons_zero, List.getElem_cons_succ, List.setIfInBounds_toArray, List.set_cons_zero, List.set_cons_succ]
      refine monoN_stay (i := 34) (v := ?_) rfl (by kernel_rfl) (by kernel_rfl) (by kernel_rfl) (fun _ _ _ h => h) (Or.inl ⟨by rfl, ?_⟩) ?_
      rotate_left 1
      · (intro wL hL; have cL := HG.out.range (k := k) BEL.out hL (fun _ _ h => h) HI.out; have c0 := cL 0 _ rfl; have c1 := cL 1 _ rfl; have c2 := cL 2 _ rfl; have c3 := cL 3 _ rfl; have zi : bh < wL.heap.size := Nat.lt_of_lt_of_le (Nat.lt_of_lt_of_le hb0 BEL.out.size) hL.size; simp only [Nat.mul_one, Nat.add_zero] at c0 c1 c2 c3; go_simp; try with_reducible rfl)
      try simp only [Act.put, List.getElem_toArray, List.getElem_cons_zero, List.getElem_cons_succ, List.setIfInBounds_toArray, List.set_cons_zero, List.set_cons_succ]
      refine monoN_stay (i := 35) (v := ?_) rfl (by kernel_rfl) (by kernel_rfl) (by kernel_rfl) (fun _ _ _ h => h) (Or.inl ⟨by rfl, ?_⟩) ?_
      rotate_left 1
      · (intro wL hL; go_simp; try with_reducible rfl)
      try simp only [Act.put, List.getElem_toArray, List.getElem_cons_zero, List.getElem_cons_succ, List.setIfInBounds_toArray, List.set_cons_zero, List.set_cons_succ]
      refine monoN_stay (i := 36) (v := ?_) rfl (by kernel_rfl) (by kernel_rfl) (by kernel_rfl) (fun _ _ _ h => h) (Or.inl ⟨by rfl, ?_⟩) ?_
      rotate_left 1
      · (intro wL hL; have lL := (OB.out.but hL (fun h => h)).cell; have zL := (OB.out.but hL (fun h => h)).lt; go_simp; try with_reducible rfl)
      try simp only [Act.put, List.getElem_toArray, List.getElem_cons_zero, List.getElem_cons_succ, List.setIfInBounds_toArray, List.set_cons_zero, List.set_cons_succ]
      refine monoN_stay (i := 37) (v := ?_) rfl (by kernel_rfl) (by kernel_rfl) (by kernel_rfl) (fun _ _ _ h => h) (Or.inl ⟨by rfl, ?_⟩) ?_
      rotate_left 1
      · (intro wL hL; go_simp; try with_reducible rfl)
      try simp only [Act.put, List.getElem_toArray, List.getElem_cons_zero, List.getElem_cons_succ, List.setIfInBounds_toArray, List.set_cons_zero, List.set_cons_succ]
      refine monoN_stay (i := 38) (v := ?_) rfl (by kernel_rfl) (by kernel_rfl) (by kernel_rfl) (fun _ _ _ h => h) (Or.inl ⟨by rfl, ?_⟩) ?_
      rotate_left 1
      · (intro wL hL; go_simp; try with_reducible rfl)
      try simp only [Act.put, List.getElem_toArray, List.getElem_cons_zero, List.getElem_cons_succ, List.setIfInBounds_toArray, List.set_cons_zero, List.set_cons_succ]
      refine monoN_stay (i := 39) (v := ?_) rfl (by kernel_rfl) (by kernel_rfl) (by kernel_rfl) (fun _ _ _ h => h) (Or.inl ⟨by rfl, ?_⟩) ?_
      rotate_left 1
      · (intro wL hL; go_simp; try with_reducible rfl)
      try simp only [Act.put, List.getElem_toArray, List.getElem_cons_zero, List.getElem_cons_succ, List.setIfInBounds_toArray, List.set_cons_zero, List.set_cons_succ]
      refine monoN_stay (i := 40) (v := ?_) rfl (by kernel_rfl) (by kernel_rfl) (by kernel_rfl) (fun _ _ _ h => h) (Or.inl ⟨by rfl, ?_⟩) ?_
      rotate_left 1
      · (intro wL hL; have cL := HG'.out.range (k := k) BEL.out hL (fun _ _ h => h) HI.out; have c0 := cL 0 _ rfl; have c1 := cL 1 _ rfl; have c2 := cL 2 _ rfl; have c3 := cL 3 _ rfl; have zi : bh' < wL.heap.size := Nat.lt_of_lt_of_le (Nat.lt_of_lt_of_le hb1 BEL.out.size) hL.size; simp only [Nat.mul_one, Nat.add_zero] at c0 c1 c2 c3; go_simp; try with_reducible rfl)
      try simp only [Act.put, List.getElem_toArray, List.getElem_cons_zero, List.getElem_cons_succ, List.setIfInBounds_toArray, List.set_cons_zero, List.set_cons_succ]
      refine monoN_stay (i := 41) (v := ?_) rfl (by kernel_rfl) (by kernel_rfl) (by kernel_rfl) (fun _ _ _ h => h) (Or.inl ⟨by rfl, ?_⟩) ?_
      rotate_left 1
      · (intro wL hL; go_simp; try with_reducible rfl)
      try simp only [Act.put, List.getElem_toArray, List.getElem_cons_zero, List.getElem_cons_succ, List.setIfInBounds_toArray, List.set_cons_zero, List.set_cons_succ]
      refine monoN_stay (i := 42) (v := ?_) rfl (by kernel_rfl) (by kernel_rfl) (by kernel_rfl) (fun _ _ _ h => h) (Or.inl ⟨by rfl, ?_⟩) ?_
      rotate_left 1
      · (intro wL hL; go_simp; try with_reducible rfl)
      try simp only [Act.put, List.getElem_toArray, List.getElem_cons_zero, List.getElem_cons_succ, List.setIfInBounds_toArray, List.set_cons_zero, List.set_cons_succ]
      refine monoN_done (by kernel_rfl) ?_ _
      have lA := OA.out.cell
      have zA := OA.out.lt
      have lB := OB.out.cell
      have zB := OB.out.lt
      go_wp2_with fail
      go_roundw
      case rel => exact ⟨k + 1, by omega, by go_num, Lib.hid ⟨OA.out, OB.out, BEL.out⟩⟩
      case measure => simp [intOf]; omega
    · have e : k = len := by omega
      subst e
      go_wp2_with (first
        | (refine wpList_load_mid (by rfl) 31 _ (by rfl) w.heap.size 10 (by rfl) (knA m.k.star (.slice ok m.k.l.length ck)).toList _ (OA.out.part 10 _ (by rfl)) Tryz.underlying31 (by rfl) (by kernel_rfl) ?_)
        | (refine wpList_load_mid (by rfl) 31 _ (by rfl) (w.heap.size + 1) 10 (by rfl) (knA m.k.star (.slice ok' m.k.l.length ck')).toList _ (OB.out.part 10 _ (by rfl)) Tryz.underlying31 (by rfl) (by kernel_rfl) ?_)
        | (go_at_call 84; (with_reducible refine (CF _ (HA.out.lf.later BEL.out (Nat.le_refl _)) (HB.out.lf.later BEL.out (Nat.le_refl _))).out.mono ?_); rintro e1 w1 ⟨rfl, hb⟩; clear lA zA lB zB; replace OA := Lib.hid (OA.out.later hb); replace OB := Lib.hid (OB.out.later hb); replace BEL := Lib.hid (BEL.out.trans (hb.mono BEL.out.size)); clear hb; have lA := OA.out.cell; have zA := OA.out.lt; have lB := OB.out.cell; have zB := OB.out.lt)
        | (go_at_call 86; (with_reducible refine (CK _ (HA.out.lk.later BEL.out (Nat.le_refl _)) (HB.out.lk.later BEL.out (Nat.le_refl _))).out.mono ?_); rintro e1 w1 ⟨rfl, hb⟩; clear lA zA lB zB; replace OA := Lib.hid (OA.out.later hb); replace OB := Lib.hid (OB.out.later hb); replace BEL := Lib.hid (BEL.out.trans (hb.mono BEL.out.size)); clear hb; have lA := OA.out.cell; have zA := OA.out.lt; have lB := OB.out.cell; have zB := OB.out.lt)
        | (go_at_call 87; (with_reducible refine (CL _ (HA.out.ll.later BEL.out) (HB.out.ll.later BEL.out)).out.mono ?_); rintro e1 w1 ⟨rfl, hb⟩; clear lA zA lB zB; replace OA := Lib.hid (OA.out.later hb); replace OB := Lib.hid (OB.out.later hb); replace BEL := Lib.hid (BEL.out.trans (hb.mono BEL.out.size)); clear hb; have lA := OA.out.cell; have zA := OA.out.lt; have lB := OB.out.cell; have zB := OB.out.lt)
        | fail)
      go_ret
      exact ⟨rfl, BEL.out⟩
end Go.Proofs.YthbjgfennclidaaGreat
