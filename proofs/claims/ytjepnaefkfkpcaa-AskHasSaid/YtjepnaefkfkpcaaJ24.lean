/- Joined: RefAsk. -/
import Derived.Test.YtjepnaefkfkpcaaJ20
import Derived.Deep.DeepCutAuto
/- The document's Open of layer 11. Walked. -/
namespace Go.Proofs.Ytjepnaefkfkpcaa
set_option linter.unusedVariables false
set_option linter.unusedSimpArgs false
set_option maxRecDepth 100000
open Go Go.RowKit
theorem info_hasR : (Try.prog.info? 64).map (fun i => (i.zero, i.size, i.bytes)) = some (some (.agg #[.string ⟨#[]⟩, .int .i64 0, .int .i64 0, .int .i64 0]), 4, 40) := by kernel_rfl
theorem hc_one (i : Itm) : ∀ u ∈ hc i, u.oneCell' = true := by
  intro u hu
  simp only [hc, List.mem_cons, List.not_mem_nil, or_false] at hu
  rcases hu with rfl | rfl | rfl | rfl <;> rfl
structure RaS (w : World) (A Z X : Array Value) (l : List Itm) (bm k : Nat) (M : Value → Array Value) (hv : Value) (wr : World) : Prop where
  a : Own wr w.heap.size A 42
  x : Own wr (w.heap.size + 1) X 54
  z : Own wr (w.heap.size + 2) Z 51
  m : Own wr bm (M hv) 51
  r : OwnG 64 4 hc wr (bm + 1) (l.take k) hv
  b : Below w.heap.size w wr
def RaRel (w : World) (A Z X : Array Value) (l : List Itm) (len bm : Nat) (M : Value → Array Value) (i : Value) (wr : World) : Prop :=
  ∃ (k : Nat) (hv : Value), k ≤ len ∧ i = .int .i64 k ∧ Hid (RaS w A Z X l bm k M hv wr)
set_option maxRecDepth 100000 in
set_option maxHeartbeats 8000000 in
theorem refAsk_calls (s : St) (fv sv ov kv : Value) (wth sid : Int) (w : World) (hS : StW w s fv sv ov kv) (h1 : s.store.length ≤ 1000) :
    Calls Try.prog 10 #[stV s fv sv ov kv, .int .i64 wth, .int .i64 sid] w fun e w' => ∃ hv', e = .returned (.tuple #[.agg (ssA (askX s wth sid) nilV nilV nilV), .agg (mgA (askO s wth sid) fv kv hv' nilV)]) ∧ Sure (fun b => b < w.heap.size) w' (fun w => GRow 4 hc w s.store hv') ∧ Below w.heap.size w w' := by
  obtain ⟨of_, cf, rfl⟩ := lies_val hS.lf
  obtain ⟨ok_, ck, rfl⟩ := hS.lk.val
  obtain ⟨oa, cap, b, o, rfl, hr⟩ := hS.ls
  obtain ⟨oo, co, rfl⟩ := hS.lo.val
  obtain ⟨i0, hi0, hz0, hz1, hz2⟩ := info_parts info_hasR
  have HR := Lib.hid hr
  have hcap := hr.len
  have hmax := hr.max
  unfold maxLen at hmax
  clear hr hS
  generalize hlen : s.store.length = len at *
  have HLEN := Lib.hid hlen
  clear hlen
  have OA := Lib.hid (((Own.new w (stA s (.slice of_ s.f.kids.length cf) (.slice oa len cap) (.slice oo s.out.length co) (.slice ok_ s.k.l.length ck)) 42).alloc (.cells ssZ 54)).alloc (.cells mgZ 51))
  have OX := Lib.hid ((Own.newAt (w.alloc (.cells (stA s (.slice of_ s.f.kids.length cf) (.slice oa len cap) (.slice oo s.out.length co) (.slice ok_ s.k.l.length ck)) 42)) ssZ 54 (b := w.heap.size + 1) (by simp)).alloc (.cells mgZ 51))
  have OM := Lib.hid (Own.newAt ((w.alloc (.cells (stA s (.slice of_ s.f.kids.length cf) (.slice oa len cap) (.slice oo s.out.length co) (.slice ok_ s.k.l.length ck)) 42)).alloc (.cells ssZ 54)) mgZ 51 (b := w.heap.size + 2) (by simp))
  have BEL := Lib.hid ((((Below.refl w.heap.size w).alloc (Nat.le_refl _) (.cells (stA s (.slice of_ s.f.kids.length cf) (.slice oa len cap) (.slice oo s.out.length co) (.slice ok_ s.k.l.length ck)) 42)).alloc (by simp) (.cells ssZ 54)).alloc (by simp; omega) (.cells mgZ 51))
  go_enter Try.func10, Try.ntmps10
  go_upto_region 1 with fail
  revert OA OX OM BEL
  generalize World.alloc (World.alloc (World.alloc _ _) _) _ = W1
  intro OA OX OM BEL
  have l0 := OA.out.cell
  have z0 := OA.out.lt
  have O8 := Lib.hid (Own.new W1 mgZ 51)
  go_upto_region 2 with (first
    | (refine wpList_load_mid (by rfl) 31 _ (by rfl) w.heap.size 8 (by rfl) (knA s.k.star (.slice ok_ s.k.l.length ck)).toList _ (OA.out.part 8 _ (by rfl)) Try.underlying31 (by rfl) (by kernel_rfl) ?_)
    | (refine wpList_store_mid (by rfl) 51 _ _ (by rfl) W1.heap.size 0 (mgA (askO s wth sid) (.slice of_ s.f.kids.length cf) (.slice ok_ s.k.l.length ck) nilV nilV) (by rfl) (by rfl) (O8.out.there (by rfl)) (by kernel_rfl) (by simp [Value.oneCell']) ?_)
    | fail)
  have zs : w.heap.size + 2 < W1.heap.size := OM.out.lt
  have HB : Hid (Later W1 (World.setCells (W1.alloc (.cells mgZ 51)) W1.heap.size 0 (mgA (askO s wth sid) (.slice of_ s.f.kids.length cf) (.slice ok_ s.k.l.length ck) nilV nilV).toList)) := Lib.hid (below_sets (Nat.le_refl _) _ _ ((Below.refl _ _).alloc (Nat.le_refl _) _))
  have OB := Lib.hid (O8.out.sets (mgA (askO s wth sid) (.slice of_ s.f.kids.length cf) (.slice ok_ s.k.l.length ck) nilV nilV).toList (by rfl))
  clear l0 z0 O8
  revert HB OB
  generalize World.setCells _ _ _ _ = W2
  intro HB OB
  replace OA := Lib.hid (OA.out.later HB.out)
  replace OX := Lib.hid (OX.out.later HB.out)
  replace OM := Lib.hid (OM.out.later HB.out)
  replace BEL := Lib.hid (BEL.out.trans (Below.mono HB.out BEL.out.size))
  clear HB
  generalize W1.heap.size = bm at *
  have AS : Hid (RaS w (stA s (.slice of_ s.f.kids.length cf) (.slice oa len cap) (.slice oo s.out.length co) (.slice ok_ s.k.l.length ck)) mgZ ssZ s.store bm 0 (fun hv => (mgA (askO s wth sid) (.slice of_ s.f.kids.length cf) (.slice ok_ s.k.l.length ck) hv nilV)) nilV W2) := Lib.hid ⟨OA.out, OX.out, OM.out, OB.out, OwnG.nil, BEL.out⟩
  clear OA OX OM OB BEL
  simp only [Act.put]
  have lA := AS.out.a.cell
  have zA := AS.out.a.lt
  go_wp2_with fail
  go_loopw [9] (fun i wr => RaRel w (stA s (.slice of_ s.f.kids.length cf) (.slice oa len cap) (.slice oo s.out.length co) (.slice ok_ s.k.l.length ck)) mgZ ssZ s.store len bm (fun hv => (mgA (askO s wth sid) (.slice of_ s.f.kids.length cf) (.slice ok_ s.k.l.length ck) hv nilV)) i wr) (fun i _ => len - (intOf i).toNat)
  case atStart => exact ⟨0, nilV, Nat.zero_le _, rfl, AS⟩
  case round =>
    clear AS lA zA
    obtain ⟨k, hv, hk, rfl, AS⟩ := hrel
    have lA := AS.out.a.cell
    have zA := AS.out.a.lt
    by_cases hlt : k < len
    · obtain ⟨i, hi⟩ : ∃ i, s.store[k]? = some i := ⟨_, List.getElem?_eq_getElem (by rw [HLEN.out]; exact hlt)⟩
      obtain ⟨rfl, hb0⟩ := HR.out.at0 (by rw [HLEN.out]; omega)
      have HI := Lib.hid hi
      have hkl : (s.store.take k).length = k := by rw [List.length_take, HLEN.out]; omega
      have HTK := Lib.hid hkl
      have k0 : (0 : Int) ≤ (k : Int) := by omega
      have k1 : (k : Int) < (len : Int) := by omega
      clear hi hkl
      go_upto_region 5 with fail
      have HO : Hid (wr.ownsRow (bm + 1) 64 4 hv k (gC hc (s.store.take k))) := Lib.hid (by have := AS.out.r; unfold OwnG at this; rwa [HTK.out] at this)
      obtain ⟨oh, ch, gh, rfl, _, _, _⟩ := row_slice HO.out
      have OA := Lib.hid AS.out.a
      have OX := Lib.hid AS.out.x
      have OM := Lib.hid AS.out.z
      have OB := Lib.hid AS.out.m
      have BEL := Lib.hid AS.out.b
      have zM : w.heap.size + 2 < bm := zs
      have zB := OB.out.lt
      have hnT : ∀ q, q < w.heap.size → ¬ bm ≤ q := fun q hq => by omega
      clear AS lA zA
      refine monoN_start (T := fun q => bm ≤ q) (D := fun k => k == 22 || k == 24) (by kernel_rfl) (fun wd hbd => ?_)
      replace OA := Lib.hid (OA.out.later hbd)
      replace OX := Lib.hid (OX.out.later hbd)
      replace OM := Lib.hid (OM.out.later hbd)
      replace OB := Lib.hid (OB.out.later hbd)
      replace BEL := Lib.hid (BEL.out.trans (Below.mono hbd BEL.out.size))
      replace HO := Lib.hid (ownsRow_below HO.out hbd)
      clear hbd
      refine monoN_stay (i := 0) (v := ?_) rfl (by kernel_rfl) (by kernel_rfl) (by kernel_rfl) (fun _ _ _ h => h) (Or.inl ⟨by rfl, ?_⟩) ?_
      rotate_left 1
      · (intro wL hL; go_simp; try with_reducible rfl)
      try simp only [Act.put, List.getElem_toArray, List.getElem_cons_zero, List.getElem_cons_succ, List.setIfInBounds_toArray, List.set_cons_zero, List.set_cons_succ]
      refine monoN_take (i := 1) (v := ?_) rfl (by kernel_rfl) (by kernel_rfl) (by kernel_rfl) (by kernel_rfl) (fun _ _ _ h => h) (Or.inl ⟨by rfl, ?_⟩) ?_
      rotate_left 1
      · (intro wL hL; have lL := (OB.out.later hL).cell; have zL := (OB.out.later hL).lt; go_simp; try with_reducible rfl)
      try simp only [Act.put, List.getElem_toArray, List.getElem_cons_zero, List.getElem_cons_succ, List.setIfInBounds_toArray, List.set_cons_zero, List.set_cons_succ]
      refine monoN_stay (i := 2) (v := ?_) rfl (by kernel_rfl) (by kernel_rfl) (by kernel_rfl) (fun _ _ _ h => h) (Or.inl ⟨by rfl, ?_⟩) ?_
      rotate_left 1
      · (intro wL hL; go_simp; try with_reducible rfl)
      try simp only [Act.put, List.getElem_toArray, List.getElem_cons_zero, List.getElem_cons_succ, List.setIfInBounds_toArray, List.set_cons_zero, List.set_cons_succ]
      refine monoN_stay (i := 3) (v := ?_) rfl (by kernel_rfl) (by kernel_rfl) (by kernel_rfl) (fun _ _ _ h => h) (Or.inl ⟨by rfl, ?_⟩) ?_
      rotate_left 1
      · (intro wL hL; have lL := (OA.out.but hL (by show ¬ bm ≤ _; omega)).cell; have zL := (OA.out.but hL (by show ¬ bm ≤ _; omega)).lt; go_simp; try with_reducible rfl)
      try simp only [Act.put, List.getElem_toArray, List.getElem_cons_zero, List.getElem_cons_succ, List.setIfInBounds_toArray, List.set_cons_zero, List.set_cons_succ]
      refine monoN_stay (i := 4) (v := ?_) rfl (by kernel_rfl) (by kernel_rfl) (by kernel_rfl) (fun _ _ _ h => h) (Or.inl ⟨by rfl, ?_⟩) ?_
      rotate_left 1
      · (intro wL hL; go_simp; try with_reducible rfl)
      try simp only [Act.put, List.getElem_toArray, List.getElem_cons_zero, List.getElem_cons_succ, List.setIfInBounds_toArray, List.set_cons_zero, List.set_cons_succ]
      refine monoN_stay (i := 5) (v := ?_) rfl (by kernel_rfl) (by kernel_rfl) (by kernel_rfl) (fun _ _ _ h => h) (Or.inl ⟨by rfl, ?_⟩) ?_
      rotate_left 1
      · (intro wL hL; go_simp; try with_reducible rfl)
      try simp only [Act.put, List.getElem_toArray, List.getElem_cons_zero, List.getElem_cons_succ, List.setIfInBounds_toArray, List.set_cons_zero, List.set_cons_succ]
      refine monoN_stay (i := 6) (v := ?_) rfl (by kernel_rfl) (by kernel_rfl) (by kernel_rfl) (fun _ _ _ h => h) (Or.inl ⟨by rfl, ?_⟩) ?_
      rotate_left 1
      · (intro wL hL; go_simp; try with_reducible rfl)
      try simp only [Act.put, List.getElem_toArray, List.getElem_cons_zero, List.getElem_cons_succ, List.setIfInBounds_toArray, List.set_cons_zero, List.set_cons_succ]
      refine monoN_stay (i := 7) (v := ?_) rfl (by kernel_rfl) (by kernel_rfl) (by kernel_rfl) (fun _ _ _ h => h) (Or.inl ⟨by rfl, ?_⟩) ?_
      rotate_left 1
      · (intro wL hL; obtain ⟨c0, c1, c2, c3, _, _, _, _⟩ := rowCells (k := k) HR.out BEL.out hL hnT HI.out; have zi : b < wL.heap.size := Nat.lt_of_lt_of_le (Nat.lt_of_lt_of_le hb0 BEL.out.size) hL.size; go_simp; try with_reducible rfl)
      try simp only [Act.put, List.getElem_toArray, List.getElem_cons_zero, List.getElem_cons_succ, List.setIfInBounds_toArray, List.set_cons_zero, List.set_cons_succ]
      refine monoN_stay (i := 8) (v := ?_) rfl (by kernel_rfl) (by kernel_rfl) (by kernel_rfl) (fun _ _ _ h => h) (Or.inl ⟨by rfl, ?_⟩) ?_
      rotate_left 1
      · (intro wL hL; go_simp; try with_reducible rfl)
      try simp only [Act.put, List.getElem_toArray, List.getElem_cons_zero, List.getElem_cons_succ, List.setIfInBounds_toArray, List.set_cons_zero, List.set_cons_succ]
      refine monoN_stay (i := 9) (v := ?_) rfl (by kernel_rfl) (by kernel_rfl) (by kernel_rfl) (fun _ _ _ h => h) (Or.inl ⟨by rfl, ?_⟩) ?_
      rotate_left 1
      · (intro wL hL; have lL := (OA.out.but hL (by show ¬ bm ≤ _; omega)).cell; have zL := (OA.out.but hL (by show ¬ bm ≤ _; omega)).lt; go_simp; try with_reducible rfl)
      try simp only [Act.put, List.getElem_toArray, List.getElem_cons_zero, List.getElem_cons_succ, List.setIfInBounds_toArray, List.set_cons_zero, List.set_cons_succ]
      refine monoN_stay (i := 10) (v := ?_) rfl (by kernel_rfl) (by kernel_rfl) (by kernel_rfl) (fun _ _ _ h => h) (Or.inl ⟨by rfl, ?_⟩) ?_
      rotate_left 1
      · (intro wL hL; go_simp; try with_reducible rfl)
      try simp only [Act.put, List.getElem_toArray, List.getElem_cons_zero, List.getElem_cons_succ, List.setIfInBounds_toArray, List.set_cons_zero, List.set_cons_succ]
      refine monoN_stay (i := 11) (v := ?_) rfl (by kernel_rfl) (by kernel_rfl) (by kernel_rfl) (fun _ _ _ h => h) (Or.inl ⟨by rfl, ?_⟩) ?_
      rotate_left 1
      · (intro wL hL; go_simp; try with_reducible rfl)
      try simp only [Act.put, List.getElem_toArray, List.getElem_cons_zero, List.getElem_cons_succ, List.setIfInBounds_toArray, List.set_cons_zero, List.set_cons_succ]
      refine monoN_stay (i := 12) (v := ?_) rfl (by kernel_rfl) (by kernel_rfl) (by kernel_rfl) (fun _ _ _ h => h) (Or.inl ⟨by rfl, ?_⟩) ?_
      rotate_left 1
      · (intro wL hL; go_simp; try with_reducible rfl)
      try simp only [Act.put, List.getElem_toArray, List.getElem_cons_zero, List.getElem_cons_succ, List.setIfInBounds_toArray, List.set_cons_zero, List.set_cons_succ]
      refine monoN_stay (i := 13) (v := ?_) rfl (by kernel_rfl) (by kernel_rfl) (by kernel_rfl) (fun _ _ _ h => h) (Or.inl ⟨by rfl, ?_⟩) ?_
      rotate_left 1
      · (intro wL hL; obtain ⟨c0, c1, c2, c3, _, _, _, _⟩ := rowCells (k := k) HR.out BEL.out hL hnT HI.out; have zi : b < wL.heap.size := Nat.lt_of_lt_of_le (Nat.lt_of_lt_of_le hb0 BEL.out.size) hL.size; go_simp; try with_reducible rfl)
      try simp only [Act.put, List.getElem_toArray, List.getElem_cons_zero, List.getElem_cons_succ, List.setIfInBounds_toArray, List.set_cons_zero, List.set_cons_succ]
      refine monoN_stay (i := 14) (v := ?_) rfl (by kernel_rfl) (by kernel_rfl) (by kernel_rfl) (fun _ _ _ h => h) (Or.inl ⟨by rfl, ?_⟩) ?_
      rotate_left 1
      · (intro wL hL; go_simp; try with_reducible rfl)
      try simp only [Act.put, List.getElem_toArray, List.getElem_cons_zero, List.getElem_cons_succ, List.setIfInBounds_toArray, List.set_cons_zero, List.set_cons_succ]
      refine monoN_stay (i := 15) (v := ?_) rfl (by kernel_rfl) (by kernel_rfl) (by kernel_rfl) (fun _ _ _ h => h) (Or.inl ⟨by rfl, ?_⟩) ?_
      rotate_left 1
      · (intro wL hL; have lL := (OA.out.but hL (by show ¬ bm ≤ _; omega)).cell; have zL := (OA.out.but hL (by show ¬ bm ≤ _; omega)).lt; go_simp; try with_reducible rfl)
      try simp only [Act.put, List.getElem_toArray, List.getElem_cons_zero, List.getElem_cons_succ, List.setIfInBounds_toArray, List.set_cons_zero, List.set_cons_succ]
      refine monoN_stay (i := 16) (v := ?_) rfl (by kernel_rfl) (by kernel_rfl) (by kernel_rfl) (fun _ _ _ h => h) (Or.inl ⟨by rfl, ?_⟩) ?_
      rotate_left 1
      · (intro wL hL; go_simp; try with_reducible rfl)
      try simp only [Act.put, List.getElem_toArray, List.getElem_cons_zero, List.getElem_cons_succ, List.setIfInBounds_toArray, List.set_cons_zero, List.set_cons_succ]
      refine monoN_stay (i := 17) (v := ?_) rfl (by kernel_rfl) (by kernel_rfl) (by kernel_rfl) (fun _ _ _ h => h) (Or.inl ⟨by rfl, ?_⟩) ?_
      rotate_left 1
      · (intro wL hL; go_simp; try with_reducible rfl)
      try simp only [Act.put, List.getElem_toArray, List.getElem_cons_zero, List.getElem_cons_succ, List.setIfInBounds_toArray, List.set_cons_zero, List.set_cons_succ]
      refine monoN_stay (i := 18) (v := ?_) rfl (by kernel_rfl) (by kernel_rfl) (by kernel_rfl) (fun _ _ _ h => h) (Or.inl ⟨by rfl, ?_⟩) ?_
      rotate_left 1
      · (intro wL hL; go_simp; try with_reducible rfl)
      try simp only [Act.put, List.getElem_toArray, List.getElem_cons_zero, List.getElem_cons_succ, List.setIfInBounds_toArray, List.set_cons_zero, List.set_cons_succ]
      refine monoN_stay (i := 19) (v := ?_) rfl (by kernel_rfl) (by kernel_rfl) (by kernel_rfl) (fun _ _ _ h => h) (Or.inl ⟨by rfl, ?_⟩) ?_
      rotate_left 1
      · (intro wL hL; obtain ⟨c0, c1, c2, c3, _, _, _, _⟩ := rowCells (k := k) HR.out BEL.out hL hnT HI.out; have zi : b < wL.heap.size := Nat.lt_of_lt_of_le (Nat.lt_of_lt_of_le hb0 BEL.out.size) hL.size; go_simp; try with_reducible rfl)
      try simp only [Act.put, List.getElem_toArray, List.getElem_cons_zero, List.getElem_cons_succ, List.setIfInBounds_toArray, List.set_cons_zero, List.set_cons_succ]
      refine monoN_stay (i := 20) (v := ?_) rfl (by kernel_rfl) (by kernel_rfl) (by kernel_rfl) (fun _ _ _ h => h) (Or.inl ⟨by rfl, ?_⟩) ?_
      rotate_left 1
      · (intro wL hL; go_simp; try with_reducible rfl)
      try simp only [Act.put, List.getElem_toArray, List.getElem_cons_zero, List.getElem_cons_succ, List.setIfInBounds_toArray, List.set_cons_zero, List.set_cons_succ]
      refine monoN_r1 (i := 21) (by kernel_rfl) ?_
      refine stepN_new (by rfl) (by rfl) (fun b => .slice (some ⟨b, 0, none⟩) 1 1) #[.string i.id, .int .i64 i.r, .int .i64 i.c, .int .i64 i.st] 64 (by go_simp; try rfl) (fun bn wn hbn hb on => ?_)
      replace OA := Lib.hid (OA.out.later hb)
      replace OX := Lib.hid (OX.out.later hb)
      replace OM := Lib.hid (OM.out.later hb)
      replace OB := Lib.hid (OB.out.later hb)
      replace BEL := Lib.hid (BEL.out.trans (Below.mono hb BEL.out.size))
      replace HO := Lib.hid (ownsRow_below HO.out hb)
      clear hb hbn
      have ON := Lib.hid on
      clear on
      try simp only [Act.put, List.getElem_toArray, List.getElem_cons_zero, List.getElem_cons_succ, List.setIfInBounds_toArray, List.set_cons_zero, List.set_cons_succ]
      refine monoN_r1 (i := 22) (by kernel_rfl) ?_
      refine stepN_append (by rfl) (by rfl) _ _ 49 (by rfl) (bm + 1) 64 i0 _ 4 40 Try.underlying49 hi0 hz0 hz1 hz2 rfl (by omega) ((.slice oh k ch)) (k) (gC hc (s.store.take k)) (by rfl) HO.out (⟨bn, 0, none⟩) 1 1 (hc i) (by rfl) (by rfl) (World.news_of_block (cs := #[.string i.id, .int .i64 i.r, .int .i64 i.c, .int .i64 i.st]) ON.out.blk) (hc_one i) (by omega) (by unfold maxLen; omega) (by omega) (by have := OB.out.lt; omega) (by rfl) (fun q hq => by have := (World.ownsRow.lt HO.out q hq.symm).1; show bm ≤ q; omega) (fun g7 cap7 wa how ha => ?_)
      clear ON
      replace OA := Lib.hid (OA.out.apped ha (own_ne HO.out (by omega)))
      replace OX := Lib.hid (OX.out.apped ha (own_ne HO.out (by omega)))
      replace OM := Lib.hid (OM.out.apped ha (own_ne HO.out (by omega)))
      replace OB := Lib.hid (OB.out.apped ha (own_ne HO.out (by omega)))
      replace BEL := Lib.hid (ha.bel (fun k hk => Nat.le_trans (by omega) (World.ownsRow.lt HO.out k hk.symm).1) BEL.out BEL.out.size)
      replace HO := Lib.hid how
      clear how ha
      try simp only [Act.put, List.getElem_toArray, List.getElem_cons_zero, List.getElem_cons_succ, List.setIfInBounds_toArray, List.set_cons_zero, List.set_cons_succ]
      refine monoN_stay (i := 23) (v := ?_) rfl (by kernel_rfl) (by kernel_rfl) (by kernel_rfl) (fun _ _ _ h => h) (Or.inl ⟨by rfl, ?_⟩) ?_
      rotate_left 1
      · (intro wL hL; go_simp; try with_reducible rfl)
      try simp only [Act.put, List.getElem_toArray, List.getElem_cons_zero, List.getElem_cons_succ, List.setIfInBounds_toArray, List.set_cons_zero, List.set_cons_succ]
      refine monoN_r1 (i := 24) (by kernel_rfl) ?_
      refine stepN_store1 (by rfl) (by rfl) (bm) (19) (.slice (some ⟨g7, 0, none⟩) (k + 1) cap7) OB.out (by have lL := OB.out.cell; have fL := OB.out.free; have zL := OB.out.lt; go_simp; try rfl) (by rfl) (Nat.le_refl bm) (fun ws hs ho => ?_)
      replace OA := Lib.hid (OA.out.stored hs (by omega))
      replace OX := Lib.hid (OX.out.stored hs (by omega))
      replace OM := Lib.hid (OM.out.stored hs (by omega))
      replace BEL := Lib.hid (hs.bel (by omega) BEL.out)
      replace HO := Lib.hid (ownsRow_stored HO.out hs (by omega))
      replace OB := Lib.hid ho
      clear hs ho
      have KEY := Lib.hid (show OwnG 64 4 hc _ (bm + 1) (s.store.take (k + 1)) _ from by rw [takeI HI.out]; exact OwnG.push HO.out (by rw [HTK.out]))
      try simp only [Act.put, List.getElem_toArray, List.getElem_cons_zero, List.getElem_cons_succ, List.setIfInBounds_toArray, List.set_cons_zero, List.set_cons_succ]
      refine monoN_done (by kernel_rfl) ?_ _
      go_wp2_with fail
      go_roundw
      case rel => exact ⟨k + 1, _, by omega, by go_num, Lib.hid ⟨OA.out, OX.out, OM.out, OB.out, KEY.out, BEL.out⟩⟩
      case measure => simp [intOf]; omega
    · have e : k = len := by omega
      subst e
      have hr := AS.out.r
      rw [List.take_of_length_le (by rw [HLEN.out]; omega)] at hr
      have HV := hr.val
      rw [HLEN.out] at HV
      obtain ⟨oh, ch, rfl⟩ := HV
      unfold OwnG at hr
      rw [HLEN.out] at hr
      have HRW := Lib.hid hr
      have OX := Lib.hid AS.out.x
      have OM := Lib.hid AS.out.z
      have OB := Lib.hid AS.out.m
      have OA := Lib.hid AS.out.a
      have BEL := Lib.hid AS.out.b
      clear AS hr
      go_upto_region 6 with fail
      clear lA zA
      refine monoN_start (T := fun q => q = w.heap.size + 1 ∨ q = w.heap.size + 2) (D := fun k => k == 6 || k == 7) (by kernel_rfl) (fun wd hbd => ?_)
      replace OX := Lib.hid (OX.out.later hbd)
      replace OM := Lib.hid (OM.out.later hbd)
      replace OA := Lib.hid (OA.out.later hbd)
      replace OB := Lib.hid (OB.out.later hbd)
      replace BEL := Lib.hid (BEL.out.trans (Below.mono hbd BEL.out.size))
      replace HRW := Lib.hid (ownsRow_below HRW.out hbd)
      clear hbd
      refine monoN_stay (i := 0) (v := ?_) rfl (by kernel_rfl) (by kernel_rfl) (by kernel_rfl) (fun _ _ _ h => h) (Or.inl ⟨by rfl, ?_⟩) ?_
      rotate_left 1
      · (intro wL hL; go_simp; try with_reducible rfl)
      try simp only [Act.put, List.getElem_toArray, List.getElem_cons_zero, List.getElem_cons_succ, List.setIfInBounds_toArray, List.set_cons_zero, List.set_cons_succ]
      refine monoN_stay (i := 1) (v := ?_) rfl (by kernel_rfl) (by kernel_rfl) (by kernel_rfl) (fun _ _ _ h => h) (Or.inl ⟨by rfl, ?_⟩) ?_
      rotate_left 1
      · (intro wL hL; go_simp; try with_reducible rfl)
      try simp only [Act.put, List.getElem_toArray, List.getElem_cons_zero, List.getElem_cons_succ, List.setIfInBounds_toArray, List.set_cons_zero, List.set_cons_succ]
      refine monoN_stay (i := 2) (v := ?_) rfl (by kernel_rfl) (by kernel_rfl) (by kernel_rfl) (fun _ _ _ h => h) (Or.inl ⟨by rfl, ?_⟩) ?_
      rotate_left 1
      · (intro wL hL; go_simp; try with_reducible rfl)
      try simp only [Act.put, List.getElem_toArray, List.getElem_cons_zero, List.getElem_cons_succ, List.setIfInBounds_toArray, List.set_cons_zero, List.set_cons_succ]
      refine monoN_stay (i := 3) (v := ?_) rfl (by kernel_rfl) (by kernel_rfl) (by kernel_rfl) (fun _ _ _ h => h) (Or.inl ⟨by rfl, ?_⟩) ?_
      rotate_left 1
      · (intro wL hL; have lL := (OA.out.but hL (by show ¬ (_ ∨ _); omega)).cell; have zL := (OA.out.but hL (by show ¬ (_ ∨ _); omega)).lt; go_simp; try with_reducible rfl)
      try simp only [Act.put, List.getElem_toArray, List.getElem_cons_zero, List.getElem_cons_succ, List.setIfInBounds_toArray, List.set_cons_zero, List.set_cons_succ]
      refine monoN_stay (i := 4) (v := ?_) rfl (by kernel_rfl) (by kernel_rfl) (by kernel_rfl) (fun _ _ _ h => h) (Or.inl ⟨by rfl, ?_⟩) ?_
      rotate_left 1
      · (intro wL hL; go_simp; try with_reducible rfl)
      try simp only [Act.put, List.getElem_toArray, List.getElem_cons_zero, List.getElem_cons_succ, List.setIfInBounds_toArray, List.set_cons_zero, List.set_cons_succ]
      refine monoN_stay (i := 5) (v := .agg (mgA (askO s wth sid) (.slice of_ s.f.kids.length cf) (.slice ok_ s.k.l.length ck) (.slice oh k ch) nilV)) rfl (by kernel_rfl) (by kernel_rfl) (by kernel_rfl) (fun _ _ _ h => h) (Or.inl ⟨by rfl, fun wL hL => exec_load_mid 51 _ rfl (bm) 0 (by rfl) ((mgA (askO s wth sid) (.slice of_ s.f.kids.length cf) (.slice ok_ s.k.l.length ck) (.slice oh k ch) nilV) : Array Value).toList _ ((OB.out.but hL (by show ¬ (_ ∨ _); omega)).part 0 _ (by rfl)) Try.underlying51 (by rfl) (by kernel_rfl)⟩) ?_
      try simp only [Act.put, List.getElem_toArray, List.getElem_cons_zero, List.getElem_cons_succ, List.setIfInBounds_toArray, List.set_cons_zero, List.set_cons_succ]
      refine monoN_r1 (i := 6) (by kernel_rfl) ?_
      refine stepN_store (by rfl) (by rfl) 54 _ _ (by rfl) (w.heap.size + 1) (0) (ssA (askX s wth sid) nilV nilV nilV) (by rfl) (by rfl) OX.out (by simp) (by kernel_rfl) (by simp [Value.oneCell']) (by rfl) (Or.inl rfl) (fun ws hs ho => ?_)
      replace OM := Lib.hid (OM.out.stored hs (by omega))
      replace OA := Lib.hid (OA.out.stored hs (by omega))
      replace OB := Lib.hid (OB.out.stored hs (by omega))
      replace BEL := Lib.hid (hs.bel (by omega) BEL.out)
      replace HRW := Lib.hid (ownsRow_stored HRW.out hs (by omega))
      replace OX := Lib.hid ho
      clear hs ho
      replace OX := Lib.hid (OX.out.whole (by rfl))
      try simp only [Act.put, List.getElem_toArray, List.getElem_cons_zero, List.getElem_cons_succ, List.setIfInBounds_toArray, List.set_cons_zero, List.set_cons_succ]
      refine monoN_r1 (i := 7) (by kernel_rfl) ?_
      refine stepN_store (by rfl) (by rfl) 51 _ _ (by rfl) (w.heap.size + 2) (0) (mgA (askO s wth sid) (.slice of_ s.f.kids.length cf) (.slice ok_ s.k.l.length ck) (.slice oh k ch) nilV) (by rfl) (by rfl) OM.out (by simp) (by kernel_rfl) (by simp [Value.oneCell']) (by rfl) (Or.inr rfl) (fun ws hs ho => ?_)
      replace OX := Lib.hid (OX.out.stored hs (by omega))
      replace OA := Lib.hid (OA.out.stored hs (by omega))
      replace OB := Lib.hid (OB.out.stored hs (by omega))
      replace BEL := Lib.hid (hs.bel (by omega) BEL.out)
      replace HRW := Lib.hid (ownsRow_stored HRW.out hs (by omega))
      replace OM := Lib.hid ho
      clear hs ho
      replace OM := Lib.hid (OM.out.whole (by rfl))
      try simp only [Act.put, List.getElem_toArray, List.getElem_cons_zero, List.getElem_cons_succ, List.setIfInBounds_toArray, List.set_cons_zero, List.set_cons_succ]
      refine monoN_done (by kernel_rfl) ?_ _
      go_wp2_with fail
      exact ret_cell2 (by rfl) (by rfl) (by rfl) (l := (ssA (askX s wth sid) nilV nilV nilV).toList) (l' := (mgA (askO s wth sid) (.slice of_ s.f.kids.length cf) (.slice ok_ s.k.l.length ck) (.slice oh k ch) nilV).toList) OX.out.range Try.underlying54 (by rfl) (by kernel_rfl) OM.out.range Try.underlying51 (by rfl) (by kernel_rfl) rfl ⟨_, rfl, (OwnG.row (f := hc) (l := s.store) (by unfold OwnG; rw [HLEN.out]; exact HRW.out) (fun _ => rfl)).mono (fun b hq => by have hq' : b < w.heap.size := hq; show b < _; omega), BEL.out⟩
end Go.Proofs.Ytjepnaefkfkpcaa
