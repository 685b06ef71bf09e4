/- Joined: SrvR2. -/
import Derived.Test.YthbjgfennclidaaGreatJ37
import Derived.Test.YthbjgfennclidaaGreatJ38
import Derived.Test.YthbjgfennclidaaGreatJ23
import Derived.Test.YthbjgfennclidaaGreatJ13
/- The document's Answer of layer 12. Walked. -/
namespace Go.Proofs.YthbjgfennclidaaGreat
set_option linter.unusedVariables false
set_option linter.unusedSimpArgs false
set_option maxRecDepth 100000
open Go Go.RowKit
def endR (m : Mg) (turn : Int) (k : Kn) (l : List En) : Mg := endM m turn 0 k l
theorem ans_no {s : St} {m : Mg} {turn : Int} (h : ¬ (mayM m = true ∧ m.dst = s.r)) : ansM s m turn = [] := by unfold ansM; rw [if_neg h]
theorem msW_nil (w : World) : MsW w [] [] nilV := ⟨rfl, GRow.nil, fun x hx => by simp at hx⟩
structure R1S (W8 : World) (A : List En) (v9 : Value) (wr : World) : Prop where
  r : OwnG 70 11 ec wr W8.heap.size A v9
  b : Below W8.heap.size W8 wr
def R1Rel (W8 : World) (F : Nat → List En) (len : Nat) (v9 iv : Value) (wr : World) : Prop := ∃ k : Nat, k ≤ len ∧ iv = .int .i64 k ∧ Hid (R1S W8 (F k) v9 wr)
theorem OwnG.storedBy {α : Type} {e t : TypeId} {sz b : Nat} {f : α → List Value} {w w1 : World} {base : Nat} {l : List α} {v : Value} {C : Array Value} (h : OwnG e sz f w base l v) (hs : StoreR b w w1) (ho : Own w b C t) (hne : e ≠ t) : OwnG e sz f w1 base l v := by
  obtain ⟨h1, h2⟩ := h
  refine ⟨h1, ?_⟩
  rcases h2 with h2 | ⟨g, cap, cur, hv, hg, hh, r⟩
  · exact .inl h2
  · have hlt : g < w.heap.size := by
      rcases Nat.lt_or_ge g w.heap.size with hlt | hge
      · exact hlt
      · rw [Array.getElem?_eq_none hge] at hh; cases hh
    refine .inr ⟨g, cap, cur, hv, hg, (hs.but.blk g hlt fun e9 => ?_).trans hh, r⟩
    have e9 : g = b := e9
    subst e9
    have := ho.blk
    rw [hh] at this
    simp only [Option.some.injEq, Obj.cells.injEq] at this
    exact hne this.2.1
def R2Rel (W8 : World) (b : Nat) (C : Value → Array Value) (F G : Nat → List En) (len : Nat) (v9 iv : Value) (wr : World) : Prop := ∃ (k : Nat) (vL : Value), k ≤ len ∧ iv = .int .i64 k ∧ Hid (R2S W8 b C (F k) (G k) v9 vL wr)
def ansF (all : List Itm) (m : Mg) (l : List Itm) : List En := lacksE all m ++ leavesE all m l
def ansG (s : St) (all : List Itm) (inn : Bool) (l : List Itm) : List En := if inn = true then lostE s all l else []
theorem ansF_no {all : List Itm} {m : Mg} {k : Nat} {h : Itm} (hx : m.has[k]? = some h) (hp : leftB all m h = false) : ansF all m (m.has.take (k + 1)) = ansF all m (m.has.take k) := by unfold ansF leavesE; rw [filter_no hx hp]
theorem ansF_yes {all : List Itm} {m : Mg} {k : Nat} {h : Itm} (hx : m.has[k]? = some h) (hp : leftB all m h = true) : ansF all m (m.has.take (k + 1)) = ansF all m (m.has.take k) ++ [leftE all h] := by unfold ansF leavesE; rw [filter_yes hx hp, List.append_assoc]
theorem ansG_no {s : St} {all : List Itm} {m : Mg} {inn : Bool} {k : Nat} {h : Itm} (hx : m.has[k]? = some h) (hp : (inn && lostB s all h) = false) : ansG s all inn (m.has.take (k + 1)) = ansG s all inn (m.has.take k) := by
  unfold ansG lostE
  cases inn
  · rfl
  · rw [if_pos rfl, if_pos rfl, filter_no hx (by simpa using hp)]
theorem ansG_yes {s : St} {all : List Itm} {m : Mg} {k : Nat} {h : Itm} (hx : m.has[k]? = some h) (hp : lostB s all h = true) : ansG s all true (m.has.take (k + 1)) = ansG s all true (m.has.take k) ++ [goneE h 0 0] := by
  unfold ansG lostE; rw [if_pos rfl, if_pos rfl, filter_yes hx hp]
theorem ansF_len (all : List Itm) (m : Mg) (l : List Itm) : (ansF all m l).length ≤ all.length + l.length := by
  unfold ansF lacksE leavesE
  rw [List.length_append]
  exact Nat.add_le_add (filter_len _ _ _) (filter_len _ _ _)
theorem ansG_len (s : St) (all : List Itm) (inn : Bool) (l : List Itm) : (ansG s all inn l).length ≤ l.length := by
  unfold ansG
  split
  · exact filter_len _ _ _
  · exact Nat.zero_le _
theorem Own.thereN {w : World} {b off n : Nat} {c : Array Value} {t : TypeId} (h : Own w b c t) (hn : off + n ≤ c.size) : w.there b off n := fun j hj => by
  rw [h.cell (off + j)]
  exact ⟨by rw [Array.getElem?_eq_getElem (by omega)]; rfl, h.free (off + j)⟩
theorem R2S.dL {W8 wr w' : World} {b : Nat} {C : Value → Array Value} {A B : List En} {v9 vL : Value} {x : En} (h : R2S W8 b C A B v9 vL wr) (hg : (wr.alloc (.cells (eA x) 70)).grownBy w' vL.ownBlock) : Own w' b (C vL) 47 :=
  have h1 := h.later (w' := wr.alloc (.cells (eA x) 70)) ((Below.refl _ _).alloc (Nat.le_refl _) _)
  h1.d.grown hg (own_apart h1.rL h1.d et_ne_mt)
theorem setNew2 (h : Itm) (r c : Int) : setArrN (eA (goneE h 0 0)) 9 [.int .i64 r, .int .i64 c] = eA (goneE h r c) := by simp [setArrN, goneE]
def R3Rel (W8 : World) (b : Nat) (C : Value → Array Value) (A B : List En) (v9 vL : Value) (m : Mg) (turn : Int) (na : Nat) (v iv : Value) (wr : World) : Prop := ∃ (j t : Nat) (L : List Mv), t < na + 4 ∧ iv = .int .i64 t ∧ Hid (t = 4 * j) ∧ Hid (R3S W8 b C A B v9 vL (batsM m turn A j) L v wr)
theorem cut_row {w : World} {base g9 c9 na t j en : Nat} {A : List En} (h : w.ownsRow base 70 11 (.slice (some ⟨g9, 0, none⟩) na c9) na (gC ec A)) (hA : A.length = na) (ht : t = 4 * j) (hlt : t < na) (he : en = min (t + 4) na) :
    GRow 11 ec w (cutE A j) (.slice (some ⟨g9, t * 11, none⟩) (en - t) (c9 - t)) := by
  obtain ⟨oa, cap, g, e, h1, h3, hg⟩ := row_slice h
  simp only [Value.slice.injEq, Option.some.injEq, Addr.mk.injEq] at e
  obtain ⟨e1, _, rfl⟩ := e
  obtain ⟨e2, hgb, hgs⟩ := hg (by omega)
  rw [← e1] at e2
  simp only [Option.some.injEq, Addr.mk.injEq, and_true] at e2
  subst e2
  have hl : (cutE A j).length = en - t := by unfold cutE; rw [List.length_take, List.length_drop]; omega
  refine ⟨_, _, g9, t * 11, by rw [hl], by rw [hl]; omega, by omega, fun _ => ⟨rfl, hgs⟩, fun k x hk q u hu => ?_⟩
  have hk4 : k < en - t := by have := some_posI hk; omega
  have hx : A[t + k]? = some x := by
    unfold cutE at hk
    rw [List.getElem?_take_of_lt (by omega), List.getElem?_drop] at hk
    rw [ht]; exact hk
  have hq : q < 11 := (List.getElem?_eq_some_iff.1 hu).1
  have hm : (t + k) * 11 + q < na * 11 := by omega
  have := h.cellAt ((t + k) * 11 + q) hm
  rw [gC_get (sz := 11) (f := ec) (fun _ => rfl) A (t + k) x hx q hq] at this
  rw [show t * 11 + k * 11 + q = (t + k) * 11 + q by omega, this]
  exact hu
theorem cutE_len {na t j en : Nat} {A : List En} (hA : A.length = na) (ht : t = 4 * j) (hlt : t < na) (he : en = min (t + 4) na) : (cutE A j).length = en - t := by unfold cutE; rw [List.length_take, List.length_drop]; omega
theorem own_fresh {w : World} {base : Nat} {l : List En} {cells : Array Value} {cap : Nat} (hbase : base ≤ w.heap.size) (hc : l.length ≤ cap) (hm : cap ≤ maxLen) (hs : cells.size = cap * 11) (ht : cells.toList.take (l.length * 11) = gC ec l) : OwnG 70 11 ec (w.alloc (.cells cells 70)) base l (.slice (some ⟨w.heap.size, 0, none⟩) l.length cap) :=
  ⟨gC_len (f := ec) (sz := 11) (fun _ => rfl) l, .inr ⟨w.heap.size, cap, cells, rfl, hbase, heap_alloc_new w _, hc, hm, hs, ht⟩⟩
theorem run_clone_en (ty : TypeId) {w : World} {b base : Nat} {l : List En} {sv : Value} (O : Own w b #[] 70) (hM : GRow 11 ec w l sv) (h0 : 0 < l.length) (hn : l.length ≤ 20000) (hbase : base ≤ w.heap.size) :
    ∃ oa cap w', (Builtin.append_ #[45, 45] ty #[.slice (some ⟨b, 0, none⟩) 0 0, sv]).run Tryz.prog w = .ok (.slice oa l.length cap) w' ∧ OwnG 70 11 ec w' base l (.slice oa l.length cap) ∧ Below w.heap.size w w' := by
  obtain ⟨oa, cap, b', o, rfl, h⟩ := hM
  obtain ⟨rfl, hb⟩ := h.at0 h0
  obtain ⟨j0, hj, hy0, hy1, hy2⟩ := info_parts info_en
  have hr := run_append_grow (P := Tryz.prog) w 45 ty 70 j0 _ Tryz.underlying45 hj hy0 ⟨b, 0, none⟩ 0 0 [] (by simp) (fun j v hv => by simp at hv) ⟨b', o, none⟩ l.length cap (gC ec l) (by rw [hy1]; exact gC_len (f := ec) (sz := 11) (fun _ => rfl) l) (fun q u hu => by rw [add_none]; exact gat_news (f := ec) (sz := 11) (fun _ => rfl) h (by omega) q u hu) (by omega) (by omega) (growslice_fits (by omega) (by rw [hy2]; omega))
  rw [Nat.zero_add] at hr
  have hge := grownCap_ge w l.length 0 70
  have hle := grownCap_le_maxLen w l.length 0 70 (by unfold maxLen; omega)
  refine ⟨_, _, _, hr, own_fresh (w := w.drew) hbase hge hle ?_ ?_, (Below.refl _ _).drew.alloc (Nat.le_refl _) _⟩
  · have hl := gC_len (f := ec) (sz := 11) (fun _ => rfl) l
    have e1 : (Value.cells (.agg #[.string ⟨#[]⟩, .int .i64 0, .int .i64 0, .int .i64 0, .string ⟨#[]⟩, .int .i64 0, .complex .f64 0 0, .bool false, .bool false, .int .i64 0, .int .i64 0])).size = 11 := rfl
    simp only [Array.size_append, List.size_toArray, size_zeroCells, hl, e1, List.length_nil, List.length_append, Nat.zero_add]
    omega
  · have hl := gC_len (f := ec) (sz := 11) (fun _ => rfl) l
    rw [← hl]; simp
theorem R1S.later {W8 wr w2 : World} {A : List En} {v9 : Value} (h : R1S W8 A v9 wr) (hb : Below wr.heap.size wr w2) : R1S W8 A v9 w2 := ⟨h.r.later hb, h.b.trans (hb.mono h.b.size)⟩
theorem R1S.push {W8 wy w' : World} {A : List En} {x : En} {v9 v' : Value} (h : R1S W8 A v9 wy) (ho : OwnG 70 11 ec w' W8.heap.size (A ++ [x]) v') (hg : (wy.alloc (.cells (eA x) 70)).grownBy w' v9.ownBlock) : R1S W8 (A ++ [x]) v' w' :=
  ⟨ho, below_pushG (h.r.later ((Below.refl _ _).alloc (Nat.le_refl _) _)) (h.b.alloc h.b.size (.cells (eA x) 70)) (Nat.le_refl _) hg (by rw [World.size_alloc]; have := h.b.size; omega)⟩
set_option maxRecDepth 100000 in
set_option maxHeartbeats 16000000 in
theorem refAnswer_calls (T0 : Nat → Prop) (s : St) (m : Mg) (turn : Int) (gv sv ov qv fv kv hv lv : Value) (w : World) (hS0 : Sure T0 w fun w => StW w s gv sv ov qv) (hT0 : ∀ b, T0 b → b < w.heap.size) (hM : MgW w m fv kv hv lv)
    (hs1 : s.store.length ≤ 200) (hs2 : s.out.length ≤ 200) (hsf : s.f.size ≤ 1000) (hmf : m.f.size ≤ 1000) (hmi : (flatI m.k.l).length ≤ 10000) (hmh : m.has.length ≤ 1000) :
    Calls Tryz.prog 18 #[stV s gv sv ov qv, .agg (mgA m fv kv hv lv), .int .i64 turn] w fun e w' => ∃ v' L, e = .returned v' ∧ Sure T0 w' (fun w => MsW w (ansM s m turn) L v') ∧ Below w.heap.size w w' := by
  obtain ⟨oh, ch, rfl⟩ := hM.lh.val
  have HS0 := Lib.hid hS0
  have HT0 := Lib.hid hT0
  have HM := Lib.hid hM
  have CMY := fun w' h => Lib.hid (refMayM_calls m fv kv (.slice oh m.has.length ch) lv w' h hmf hmi)
  have CBO := fun w' h h' => Lib.hid (both_calls behT behT_calls s.store s.out sv ov w' h h' (Nat.le_trans hs1 (by decide)) (Nat.le_trans hs2 (by decide)))
  have CI := fun w' ha hb => Lib.hid (refIn_calls m.f s.f fv gv w' ha hb hmf hsf)
  have HAN := Lib.hid (show (allI s).length ≤ 400 from Nat.le_trans listMax (by omega))
  have HMH := Lib.hid hmh
  have HMF := Lib.hid hmf
  clear hS0 hT0 hM hs1 hs2 hsf hmf hmi hmh
  have OB := Lib.hid ((Own.new w (stA s gv sv ov qv) 52).alloc (.cells (mgA m fv kv (.slice oh m.has.length ch) lv) 47))
  have OM := Lib.hid (Own.newAt (w.alloc (.cells (stA s gv sv ov qv) 52)) (mgA m fv kv (.slice oh m.has.length ch) lv) 47 (b := w.heap.size + 1) (by simp))
  have BEL := Lib.hid (((Below.refl w.heap.size w).alloc (Nat.le_refl _) (.cells (stA s gv sv ov qv) 52)).alloc (by simp) (.cells (mgA m fv kv (.slice oh m.has.length ch) lv) 47))
  go_enter Tryz.func18, Tryz.ntmps18
  go_upto_region 1 with fail
  revert OB OM BEL
  generalize World.alloc (World.alloc _ _) _ = W1
  intro OB OM BEL
  try simp only [Act.put]
  go_wp2_with (first
      | (refine wpList_load_mid (by rfl) 47 _ (by rfl) (w.heap.size + 1) 0 (by rfl) (mgA m fv kv (.slice oh m.has.length ch) lv).toList _ (by exact OM.out.part 0 _ (by rfl)) Tryz.underlying47 (by rfl) (by kernel_rfl) ?_)
      | fail)
  refine (CMY _ (HM.out.later BEL.out)).out.mono ?_
  rintro e w2 ⟨rfl, hb⟩
  replace OB := Lib.hid (OB.out.later hb)
  replace OM := Lib.hid (OM.out.later hb)
  replace BEL := Lib.hid (BEL.out.trans (Below.mono hb BEL.out.size))
  clear hb CMY
  cases hmay : mayM m
  · have HE := Lib.hid (ans_no (s := s) (m := m) (turn := turn) (fun h => by rw [hmay] at h; exact Bool.false_ne_true h.1))
    clear hmay
    go_wp2_with fail
    go_ret
    exact ⟨_, [], rfl, by rw [HE.out]; exact fun w2 _ => msW_nil w2, BEL.out⟩
  have lB := OB.out.cell
  have zB := OB.out.lt
  have lM := OM.out.cell
  have zM := OM.out.lt
  by_cases hto : m.dst = s.r
  rotate_left 1
  · have HE := Lib.hid (ans_no (s := s) (m := m) (turn := turn) (fun h => hto h.2))
    have hto2 : (m.dst != s.r) = true := by simp [hto]
    clear hto hmay
    go_wp2_with fail
    go_ret
    exact ⟨_, [], rfl, by rw [HE.out]; exact fun w2 _ => msW_nil w2, BEL.out⟩
  have HGO := Lib.hid (And.intro hmay hto)
  have hto2 : (m.dst != s.r) = false := by simp [hto]
  clear hmay hto
  go_upto_region 4 with fail
  clear hto2
  go_upto_region 5 with (first | (go_at_call 22; refine (CBO _ (HS0.out.now.ls.later BEL.out) (HS0.out.now.lo.later BEL.out)).out.mono ?_; rintro e W8 ⟨v8, rfl, hR8, hb⟩; clear lB zB lM zM; replace OB := Lib.hid (OB.out.later hb); replace OM := Lib.hid (OM.out.later hb); replace BEL := Lib.hid (BEL.out.trans (Below.mono hb BEL.out.size)); clear hb) | fail)
  clear CBO
  have HA := Lib.hid (show Row 8 ic W8 (allI s) v8 from hR8)
  clear hR8
  have HZ := Lib.hid (show w.heap.size + 1 < W8.heap.size from OM.out.lt)
  have HR1 : Hid (R1S W8 [] nilV W8) := Lib.hid ⟨OwnG.nil, Below.refl _ _⟩
  obtain ⟨oa, ca, ba, oa9, rfl, hr⟩ := HA.out
  have HAR := Lib.hid hr
  have HAO := Lib.hid hr.ok
  have hcap := hr.len
  have hmax := hr.max
  unfold maxLen at hmax
  clear hr
  generalize hall : allI s = all at *
  have HALL := Lib.hid hall
  clear hall
  generalize hlen : all.length = len at *
  have HLEN := Lib.hid hlen
  clear hlen
  have HL0 := Lib.hid (fun k => Nat.le_trans (filter_len (all.take k) (wantI m) enI) (by rw [List.length_take, HLEN.out]; omega : _ ≤ len))
  have HLE := Lib.hid (show len ≤ 400 from HAN.out)
  go_wp2_with fail
  go_loopw [9, 10] (fun v9 iv wr => R1Rel W8 (fun k => ((all.take k).filter (wantI m)).map enI) len v9 iv wr) (fun _ iv _ => len - (intOf iv).toNat)
  case atStart => exact ⟨0, Nat.zero_le _, rfl, HR1⟩
  case round =>
    clear HR1
    obtain ⟨k, hk, rfl, AS⟩ := hrel
    dsimp only at AS
    by_cases hlt : k < len
    · obtain ⟨o9, c9, rfl⟩ := AS.out.r.val
      obtain ⟨x, hx⟩ : ∃ x, all[k]? = some x := ⟨_, List.getElem?_eq_getElem (by rw [HLEN.out]; exact hlt)⟩
      obtain ⟨rfl, hS⟩ := HAR.out.at0 (by rw [HLEN.out]; omega)
      have HX := Lib.hid hx
      have hid := (HAO.out x (List.mem_of_getElem? hx)).1
      have HCC := Lib.hid (fun w2 (hb : Below W8.heap.size W8 w2) => ic_cells (w := w2) (fun j u hu => (hb.cell (p := ⟨ba, oa9 + k * 8 + j, none⟩) hS).trans (HAR.out.cell k x hx j u hu)))
      have OM2 := Lib.hid (OM.out.later AS.out.b)
      have RR := Lib.hid AS.out
      have BEL8 := Lib.hid (BEL.out.trans (Below.mono AS.out.b BEL.out.size))
      have k0 : (0 : Int) ≤ (k : Int) := by omega
      have k1 : (k : Int) < (len : Int) := by omega
      have HL := Lib.hid (HL0.out k)
      clear AS hx hS
      generalize hll : (((all.take k).filter (wantI m)).map enI).length = nl at *
      have HLL := Lib.hid hll
      clear hll
      go_upto_region 9 with fail
      obtain ⟨c0, c1, c2, c3, c4, c5, c6, c7⟩ := HCC.out _ RR.out.b
      have r0 := fun dd os => cell_regrown c0 dd os
      have r1 := fun dd os => cell_regrown c1 dd os
      have r2 := fun dd os => cell_regrown c2 dd os
      have r3 := fun dd os => cell_regrown c3 dd os
      have r4 := fun dd os => cell_regrown c4 dd os
      have r5 := fun dd os => cell_regrown c5 dd os
      have r6 := fun dd os => cell_regrown c6 dd os
      have r7 := fun dd os => cell_regrown c7 dd os
      clear c0 c1 c2 c3 c4 c5 c6 c7
      have LM := fun dd os o => OM2.out.has.regrown dd os o
      have m1 := fun dd os => Lib.hid (Calls.regrown_of (refHasK_calls m.k x.id x.r x.c kv (Sort.grow (redrawn wr dd) os) (HM.out.lk.later (BEL8.out.trans (Below.mono (below_regrown _ _ _) BEL8.out.size)) (Nat.le_refl _))))
      refine wp_region_quiet_below (by kernel_rfl) (by kernel_rfl) ?_
      repeat (first | go_big_quiet_step ((first | (with_reducible exact (m1 _ _).out))) | quiet_step (first | (with_reducible exact (m1 _ _).out)))
      refine wpQuiet_nil ?_
      intro w7 hw'
      have hb := regrown_below hw'
      clear hw' m1 LM r0 r1 r2 r3 r4 r5 r6 r7
      replace OM2 := Lib.hid (OM2.out.later hb)
      replace RR := Lib.hid (RR.out.later hb)
      replace BEL8 := Lib.hid (BEL8.out.trans (Below.mono hb BEL8.out.size))
      clear hb
      go_upto_region 10 with fail
      obtain ⟨c0, c1, c2, c3, c4, c5, c6, c7⟩ := HCC.out _ RR.out.b
      have r0 := fun dd os => cell_regrown c0 dd os
      have r1 := fun dd os => cell_regrown c1 dd os
      have r2 := fun dd os => cell_regrown c2 dd os
      have r3 := fun dd os => cell_regrown c3 dd os
      have r4 := fun dd os => cell_regrown c4 dd os
      have r5 := fun dd os => cell_regrown c5 dd os
      have r6 := fun dd os => cell_regrown c6 dd os
      have r7 := fun dd os => cell_regrown c7 dd os
      clear c0 c1 c2 c3 c4 c5 c6 c7
      have LM := fun dd os o => OM2.out.has.regrown dd os o
      have m1 := fun dd os => Lib.hid (Calls.regrown_of (hasT_calls x hid m.f fv (Sort.grow (redrawn w7 dd) os) (HM.out.lf.later (BEL8.out.trans (Below.mono (below_regrown _ _ _) BEL8.out.size)) (Nat.le_refl _)) HMF.out))
      refine wp_region_quiet_below (by kernel_rfl) (by kernel_rfl) ?_
      repeat (first | go_big_quiet_step ((first | (with_reducible exact (m1 _ _).out))) | quiet_step (first | (with_reducible exact (m1 _ _).out)))
      refine wpQuiet_nil ?_
      intro wq hw'
      have hb := regrown_below hw'
      clear hw' m1 LM r0 r1 r2 r3 r4 r5 r6 r7
      replace OM2 := Lib.hid (OM2.out.later hb)
      replace RR := Lib.hid (RR.out.later hb)
      replace BEL8 := Lib.hid (BEL8.out.trans (Below.mono hb BEL8.out.size))
      clear hb
      have HST := Lib.hid (show wantI m x = (hasT m.f x && !hasK m.k x.id x.r x.c) from rfl)
      generalize hasT m.f x = hh at *
      generalize hasK m.k x.id x.r x.c = hq at *
      cases hq
      · cases hh
        · go_wp2_with fail
          go_roundw
          case rel => exact ⟨k + 1, by omega, by go_num, Lib.hid (by dsimp only; rw [filter_no HX.out HST.out]; exact RR.out)⟩
          case measure => simp [intOf]; omega
        · go_upto_region 12 with fail
          have HP := Lib.hid (fun ty => run_push_en ty (⟨x, false, 0, 0⟩ : En) RR.out.r (by have := HL.out; have := HLE.out; have := HLL.out; omega) RR.out.b.size)
          obtain ⟨c0, c1, c2, c3, c4, c5, c6, c7⟩ := HCC.out _ RR.out.b
          go_wp2_with (first | (at_builtin; obtain ⟨v9, w9, hrun, hown, hgr⟩ := HP.out _; refine Lib.wpList_append_run _ rfl _ _ _ _ rfl _ _ rfl rfl _ _ hrun ?_; have RR9 := Lib.hid (R1S.push RR.out hown hgr); clear hown hgr hrun HP) | fail)
          go_roundw
          case rel => exact ⟨k + 1, by omega, by go_num, Lib.hid (by dsimp only; rw [filter_yes HX.out HST.out]; exact RR9.out)⟩
          case measure => simp [intOf]; omega
      · have HST2 := Lib.hid (show wantI m x = false by rw [HST.out]; cases hh <;> rfl)
        clear HST
        have HST := HST2
        cases hh
        all_goals
          go_wp2_with fail
          go_roundw
          case rel => exact ⟨k + 1, by omega, by go_num, Lib.hid (by dsimp only; rw [filter_no HX.out HST.out]; exact RR.out)⟩
          case measure => simp [intOf]; omega
    · have e : k = len := by omega
      subst e
      have AL := Lib.hid (show R1S W8 (lacksE all m) u9 wr from by
        have h := AS.out
        rw [List.take_of_length_le (by rw [HLEN.out]; exact Nat.le_refl _)] at h
        exact h)
      clear AS hk hlt HL0
      have OM2 := Lib.hid (OM.out.later AL.out.b)
      have lM := OM2.out.cell
      have zM := OM2.out.lt
      have O13 := Lib.hid (Own.new wr mgZ 47)
      go_upto_region 14 with (first | (refine wpList_store_mid (by rfl) 47 _ _ (by rfl) wr.heap.size 0 (mgA (endR m turn noK []) nilV nilV nilV nilV) (by rfl) (by rfl) (O13.out.there (by rfl)) (by kernel_rfl) (by simp [Value.oneCell']) ?_) | fail)
      have HB := Lib.hid (show Later wr (World.setCells (wr.alloc (.cells mgZ 47)) wr.heap.size 0 (mgA (endR m turn noK []) nilV nilV nilV nilV).toList) from below_sets (Nat.le_refl _) _ _ ((Below.refl _ _).alloc (Nat.le_refl _) _))
      have OD := Lib.hid (O13.out.sets (mgA (endR m turn noK []) nilV nilV nilV nilV).toList (by rfl))
      clear lM zM O13
      revert HB OD
      generalize World.setCells _ _ _ _ = W14
      intro HB OD
      have AL2 := Lib.hid (AL.out.later HB.out)
      have HB8 := Lib.hid (show W8.heap.size ≤ wr.heap.size from AL.out.b.size)
      clear AL OM2
      generalize wr.heap.size = b13 at *
      try simp only [Act.put]
      have OM3 := Lib.hid (OM.out.later AL2.out.b)
      have OB3 := Lib.hid (OB.out.later AL2.out.b)
      have BELW := Lib.hid (BEL.out.trans (Below.mono AL2.out.b BEL.out.size))
      go_wp2_with (first
      | (refine wpList_load_mid (by rfl) 44 _ (by rfl) (w.heap.size + 1) 5 (by rfl) [.int .i64 m.f.op, .string m.f.text, .int .i64 m.f.n, .complex .f64 m.f.x m.f.y, fv] _ (by exact OM3.out.part 5 _ (by rfl)) Tryz.underlying44 (by rfl) (by kernel_rfl) ?_)
      | (refine wpList_load_mid (by rfl) 44 _ (by rfl) w.heap.size 1 (by rfl) [.int .i64 s.f.op, .string s.f.text, .int .i64 s.f.n, .complex .f64 s.f.x s.f.y, gv] _ (by exact OB3.out.part 1 _ (by rfl)) Tryz.underlying44 (by rfl) (by kernel_rfl) ?_)
      | fail)
      refine (CI _ (HM.out.lf.later BELW.out (Nat.le_refl _)) (HS0.out.now.lf.later BELW.out (Nat.le_refl _))).out.mono ?_
      rintro e W15 ⟨rfl, hb⟩
      have AL := Lib.hid (AL2.out.later hb)
      replace OD := Lib.hid (OD.out.later hb)
      replace OM3 := Lib.hid (OM3.out.later hb)
      replace OB3 := Lib.hid (OB3.out.later hb)
      replace BELW := Lib.hid (BELW.out.trans (Below.mono hb BELW.out.size))
      clear hb CI AL2 HB
      generalize hinn : Pr.inB m.f s.f = inn at *
      have HINN := Lib.hid hinn
      clear hinn
      go_upto_if 92 with fail
      go_cut [14] (fun u wx => u = Value.bool inn ∧ Hid (∃ kvv, Own wx b13 (mgA (endR m turn (if inn = true then s.k else noK) []) nilV kvv nilV nilV) 47 ∧ R1S W8 (lacksE all m) u9 wx ∧ kvv.oneCell' = true ∧ ∀ w2, Below w.heap.size w w2 → Sure T0 w2 (fun w => FrW w (if inn = true then s.k else noK).l kvv)))
      case first =>
        cases inn
        · go_wp2_with fail
          go_meet
          exact ⟨rfl, Lib.hid ⟨nilV, OD.out, AL.out, rfl, fun w2 _ w3 _ => frW_nil' w3⟩⟩
        · have hqv : qv.oneCell' = true := by obtain ⟨oq, cq, rfl⟩ := HS0.out.now.lk.val; rfl
          unfold Value.oneCell' at hqv
          have HO := Lib.hid (And.intro (setEnd9 m turn 0 noK s.k [] nilV qv nilV ▸ own_setsN (knA s.k.star qv).toList 10 OD.out) (StoreR.sets b13 (knA s.k.star qv).toList W15 10))
          go_wp2_with (first
          | (refine wpList_load_mid (by rfl) 31 _ (by rfl) w.heap.size 8 (by rfl) (knA s.k.star qv).toList _ (by exact OB3.out.part 8 _ (by rfl)) Tryz.underlying31 (by rfl) (by kernel_rfl) ?_)
          | (refine wpList_store_mid (by rfl) 31 _ _ (by rfl) b13 10 (knA s.k.star qv) (by rfl) (by rfl) (OD.out.thereN (off := 10) (n := 9) (by simp)) (by kernel_rfl) (by simp [Value.oneCell', hqv]) ?_)
          | fail)
          go_meet
          exact ⟨rfl, Lib.hid ⟨qv, HO.out.1, ⟨AL.out.r.storedBy HO.out.2 OD.out et_ne_mt, HO.out.2.bel HB8.out AL.out.b⟩, (by obtain ⟨oq, cq, e⟩ := HS0.out.now.lk.val; rw [e]; rfl), fun w2 hb => (HS0.out.later hb).imp fun _ h => h.lk⟩⟩
      case rest =>
        obtain ⟨rfl, HC⟩ := hcut
        obtain ⟨kvv, hOD, hAL, hk1, hSK⟩ := HC.out
        have HK1 := Lib.hid hk1
        clear hk1
        obtain ⟨K, hK⟩ : ∃ K, (if inn = true then s.k else noK) = K := ⟨_, rfl⟩
        rw [hK] at hOD hSK
        have HK := Lib.hid hK
        have HSK := Lib.hid hSK
        have RS : Hid (R2S W8 b13 (fun vL => mgA (endR m turn K []) nilV kvv nilV vL) (ansF all m (m.has.take 0)) (ansG s all inn (m.has.take 0)) u9 nilV wc) := Lib.hid ⟨hOD, by
          have e : ansF all m (m.has.take 0) = lacksE all m := by unfold ansF leavesE; simp
          rw [e]; exact hAL.r, by
          have e : ansG s all inn (m.has.take 0) = [] := by unfold ansG lostE; simp
          rw [e]; exact OwnG.nil, (fun b _ e => by cases e), hAL.b⟩
        clear HC hOD hAL hSK hK OD OM3 OB3 BELW AL
        obtain ⟨oh', ch', bh, oh9, eh, hhr⟩ := HM.out.lh
        obtain ⟨rfl, rfl⟩ : oh = oh' ∧ ch = ch' := by
          simp only [Value.slice.injEq] at eh
          exact ⟨eh.1, eh.2.2⟩
        clear eh
        have HHR := Lib.hid hhr
        have hcap2 := hhr.len
        have hmax2 := hhr.max
        unfold maxLen at hmax2
        clear hhr
        have hmhl := HMH.out
        generalize hlen9 : m.has.length = hlen at *
        have HLENH := Lib.hid hlen9
        clear hlen9
        have lM := (OM.out.later RS.out.b).cell
        have zM := (OM.out.later RS.out.b).lt
        go_wp2_with fail
        clear lM zM
        go_loopw [9, 15] (fun v9 iv wr => R2Rel W8 b13 (fun vL => mgA (endR m turn K []) nilV kvv nilV vL) (fun k => ansF all m (m.has.take k)) (fun k => ansG s all inn (m.has.take k)) hlen v9 iv wr) (fun _ iv _ => hlen - (intOf iv).toNat)
        case atStart => exact ⟨0, _, Nat.zero_le _, rfl, RS⟩
        case round =>
          clear RS
          obtain ⟨q, vL, hq, rfl, RS⟩ := hrel
          dsimp only at RS
          have OM2 := Lib.hid (OM.out.later RS.out.b)
          have lM := OM2.out.cell
          have zM := OM2.out.lt
          by_cases hlt2 : q < hlen
          · obtain ⟨h, hx⟩ : ∃ x, m.has[q]? = some x := ⟨_, List.getElem?_eq_getElem (by rw [HLENH.out]; exact hlt2)⟩
            obtain ⟨rfl, hS⟩ := HHR.out.at0 (by rw [HLENH.out]; omega)
            have HX := Lib.hid hx
            have BELr := Lib.hid (BEL.out.trans (Below.mono RS.out.b BEL.out.size))
            have OB2 := Lib.hid (OB.out.later RS.out.b)
            have HC := fun j u hu => (BELr.out.cell (p := ⟨bh, oh9 + q * 4 + j, none⟩) hS).trans (HHR.out.cell q h hx j u hu)
            have c0 := HC 0 _ rfl
            have c1 := HC 1 _ rfl
            have c2 := HC 2 _ rfl
            have c3 := HC 3 _ rfl
            simp only [Nat.add_zero] at c0
            have zb : bh < wr.heap.size := Nat.lt_of_lt_of_le hS BELr.out.size
            have HLF := Lib.hid (Nat.le_trans (ansF_len all m (m.has.take q)) (by rw [HLEN.out, List.length_take, HLENH.out]; have := HLE.out; omega : _ ≤ 2000))
            have HLG := Lib.hid (Nat.le_trans (ansG_len s all inn (m.has.take q)) (by rw [List.length_take, HLENH.out]; omega : _ ≤ 2000))
            have q0 : (0 : Int) ≤ (q : Int) := by omega
            have q1 : (q : Int) < (hlen : Int) := by omega
            clear hx HC
            have CG := fun w2 h9 => Lib.hid (refGet_calls all h.id (.slice oa k ca) w2 h9)
            obtain ⟨g, there, hg⟩ : ∃ g there, getI all h.id = (g, there) := ⟨_, _, rfl⟩
            have HG := Lib.hid hg
            have HGI := Lib.hid (show g.id.size ≤ maxLen by have := (getI_ok (id := h.id) HAO.out).1; rw [hg] at this; exact this)
            rw [hg] at CG
            clear hg
            have HSTL := Lib.hid (show leftB all m h = (there && (!hasT m.f g && behT g h)) by unfold leftB; rw [HG.out])
            have HSTG := Lib.hid (show lostB s all h = (!there && hasK s.k h.id h.r h.c) by unfold lostB; rw [HG.out])
            have HFN := Lib.hid (show leftE all h = goneE h g.r g.c by unfold leftE; rw [HG.out])
            generalize hF : ansF all m (m.has.take q) = FA at *
            generalize hGG : ansG s all inn (m.has.take q) = GA at *
            have HFA := Lib.hid hF
            have HGA := Lib.hid hGG
            clear hF hGG
            go_upto_region 21 with fail
            clear c0 c1 c2 c3 zb lM zM
            have O16 := Lib.hid (Own.new wr (hc h).toArray 74)
            have hb9 : Below wr.heap.size wr (wr.alloc (.cells (hc h).toArray 74)) := (Below.refl _ _).alloc (Nat.le_refl _) _
            replace RS := Lib.hid (RS.out.later hb9)
            replace OM2 := Lib.hid (OM2.out.later hb9)
            replace OB2 := Lib.hid (OB2.out.later hb9)
            replace BELr := Lib.hid (BELr.out.trans (Below.mono hb9 BELr.out.size))
            clear hb9
            revert RS
            revert OM2
            revert OB2
            revert BELr
            revert O16
            generalize World.alloc _ _ = VO16
            intro O16 BELr OB2 OM2 RS
            try simp only [Act.put]
            have l16 := O16.out.cell
            have z16 := O16.out.lt
            go_upto_region 22 with fail
            clear l16 z16
            have RS0 := RS
            have BE17 := Lib.hid (Below.refl VO16.heap.size VO16)
            have O17 := Lib.hid (Own.new VO16 #[.string h.id, .int .i64 h.r, .int .i64 h.c, .int .i64 0, .string ⟨#[]⟩, .int .i64 0, .complex .f64 0 0, .bool false, .bool true, .int .i64 0, .int .i64 0] 70)
            have hb9 : Below VO16.heap.size VO16 (VO16.alloc (.cells #[.string h.id, .int .i64 h.r, .int .i64 h.c, .int .i64 0, .string ⟨#[]⟩, .int .i64 0, .complex .f64 0 0, .bool false, .bool true, .int .i64 0, .int .i64 0] 70)) := (Below.refl _ _).alloc (Nat.le_refl _) _
            replace RS := Lib.hid (RS.out.later hb9)
            replace OM2 := Lib.hid (OM2.out.later hb9)
            replace OB2 := Lib.hid (OB2.out.later hb9)
            replace O16 := Lib.hid (O16.out.later hb9)
            replace BELr := Lib.hid (BELr.out.trans (Below.mono hb9 BELr.out.size))
            replace BE17 := Lib.hid (BE17.out.trans (Below.mono hb9 BE17.out.size))
            clear hb9
            revert RS
            revert OM2
            revert OB2
            revert O16
            revert BELr
            revert BE17
            revert O17
            generalize World.alloc _ _ = VO17
            intro O17 BE17 BELr O16 OB2 OM2 RS
            try simp only [Act.put]
            replace O17 := Lib.hid (show Own _ _ (eA (goneE h 0 0)) 70 from O17.out)
            have l16 := O16.out.cell
            have z16 := O16.out.lt
            go_upto_region 23 with (first | (go_at_call 53; refine (CG _ (HA.out.later RS.out.b)).out.mono ?_; rintro e wg ⟨rfl, hb⟩; clear l16 z16; replace RS := Lib.hid (RS.out.later hb); replace OM2 := Lib.hid (OM2.out.later hb); replace OB2 := Lib.hid (OB2.out.later hb); replace O16 := Lib.hid (O16.out.later hb); replace O17 := Lib.hid (O17.out.later hb); replace BELr := Lib.hid (BELr.out.trans (Below.mono hb BELr.out.size)); replace BE17 := Lib.hid (BE17.out.trans (Below.mono hb BE17.out.size)); clear hb) | fail)
            clear CG
            have O18 := Lib.hid (Own.new wg (iA g) 68)
            have hb9 : Below wg.heap.size wg (wg.alloc (.cells (iA g) 68)) := (Below.refl _ _).alloc (Nat.le_refl _) _
            replace RS := Lib.hid (RS.out.later hb9)
            replace OM2 := Lib.hid (OM2.out.later hb9)
            replace OB2 := Lib.hid (OB2.out.later hb9)
            replace O16 := Lib.hid (O16.out.later hb9)
            replace O17 := Lib.hid (O17.out.later hb9)
            replace BELr := Lib.hid (BELr.out.trans (Below.mono hb9 BELr.out.size))
            replace BE17 := Lib.hid (BE17.out.trans (Below.mono hb9 BE17.out.size))
            clear hb9
            revert RS
            revert OM2
            revert OB2
            revert O16
            revert O17
            revert BELr
            revert BE17
            revert O18
            generalize World.alloc _ _ = VO18
            intro O18 BE17 BELr O17 O16 OB2 OM2 RS
            try simp only [Act.put]
            have l16 := O16.out.cell
            have z16 := O16.out.lt
            cases there
            · have hsl : leftB all m h = false := by rw [HSTL.out]; rfl
              have HS1 := Lib.hid (ansF_no HX.out hsl)
              clear hsl HSTL
              cases inn
              · have HS2 := Lib.hid (ansG_no (s := s) (all := all) (inn := false) HX.out rfl)
                go_wp2_with fail
                go_roundw
                case rel => exact ⟨q + 1, vL, by omega, by go_num, Lib.hid (by dsimp only; rw [HS1.out, HS2.out, HFA.out, HGA.out]; exact RS.out)⟩
                case measure => simp [intOf]; omega
              · have CK := fun w2 h9 => Lib.hid (refHasK_calls s.k h.id h.r h.c qv w2 h9)
                have lB := OB2.out.cell
                have zB := OB2.out.lt
                cases hh : hasK s.k h.id h.r h.c
                · rw [hh] at CK HSTG
                  clear hh
                  have HS2 := Lib.hid (ansG_no (s := s) (all := all) (inn := true) HX.out (by rw [HSTG.out]; rfl))
                  go_wp2_with (first
                  | (go_at_call 20; refine (CK _ (HS0.out.now.lk.later BELr.out (Nat.le_refl _))).out.mono ?_; rintro e wk ⟨rfl, hb⟩; clear l16 z16 lB zB; replace RS := Lib.hid (RS.out.later hb); replace OM2 := Lib.hid (OM2.out.later hb); replace OB2 := Lib.hid (OB2.out.later hb); replace O16 := Lib.hid (O16.out.later hb); replace O17 := Lib.hid (O17.out.later hb); replace O18 := Lib.hid (O18.out.later hb); replace BELr := Lib.hid (BELr.out.trans (Below.mono hb BELr.out.size)); replace BE17 := Lib.hid (BE17.out.trans (Below.mono hb BE17.out.size)); clear hb; have l16 := O16.out.cell; have z16 := O16.out.lt)
                  | fail)
                  go_roundw
                  case rel => exact ⟨q + 1, vL, by omega, by go_num, Lib.hid (by dsimp only; rw [HS1.out, HS2.out, HFA.out, HGA.out]; exact RS.out)⟩
                  case measure => simp [intOf]; omega
                · rw [hh] at CK HSTG
                  clear hh
                  have HS2 := Lib.hid (ansG_yes (s := s) (all := all) HX.out (by rw [HSTG.out]; rfl))
                  go_upto_region 25 with (first
                  | (go_at_call 20; refine (CK _ (HS0.out.now.lk.later BELr.out (Nat.le_refl _))).out.mono ?_; rintro e wk ⟨rfl, hb⟩; clear l16 z16 lB zB; replace RS := Lib.hid (RS.out.later hb); replace OM2 := Lib.hid (OM2.out.later hb); replace OB2 := Lib.hid (OB2.out.later hb); replace O16 := Lib.hid (O16.out.later hb); replace O17 := Lib.hid (O17.out.later hb); replace O18 := Lib.hid (O18.out.later hb); replace BELr := Lib.hid (BELr.out.trans (Below.mono hb BELr.out.size)); replace BE17 := Lib.hid (BE17.out.trans (Below.mono hb BE17.out.size)); clear hb; have l16 := O16.out.cell; have z16 := O16.out.lt)
                  | fail)
                  clear l16 z16
                  have lD := RS.out.d.cell
                  have zD := RS.out.d.lt
                  have l17 := (show Own _ _ #[.string h.id, .int .i64 h.r, .int .i64 h.c, .int .i64 0, .string ⟨#[]⟩, .int .i64 0, .complex .f64 0 0, .bool false, .bool true, .int .i64 0, .int .i64 0] 70 from O17.out).cell
                  have z17 := O17.out.lt
                  have HP := Lib.hid (fun ty => run_push_en2 ty (goneE h 0 0) RS.out.rL (by have := HLG.out; omega) RS.out.b.size)
                  go_wp2_with (first | (at_builtin; obtain ⟨g9, c9, w9, hrun, hown, hgr, hw9⟩ := HP.out _; refine Lib.wpList_append_run _ rfl _ _ _ _ rfl _ _ rfl rfl _ _ hrun ?_; clear lD zD l17 z17; have D9 := RS.out.dL hgr; have l9 := D9.cell; have z9 := D9.lt; have f9 := D9.free; have RS9 := Lib.hid (RS.out.pushL (o := 21) hown hgr hw9 rfl HB8.out); clear D9 hown hgr hrun HP) | fail)
                  go_roundw
                  case rel => exact ⟨q + 1, _, by omega, by go_num, Lib.hid (by dsimp only; rw [HS1.out, HS2.out, HFA.out, HGA.out]; exact RS9.out)⟩
                  case measure => simp [intOf]; omega
            · have HS2 := Lib.hid (ansG_no (s := s) (all := all) (inn := inn) HX.out (by rw [HSTG.out]; cases inn <;> rfl))
              clear HSTG
              have CH := fun w2 h9 => Lib.hid (hasT_calls g HGI.out m.f fv w2 h9 HMF.out)
              have CBH := fun w2 => Lib.hid (behind_calls g.id g.r g.c g.st g.kd g.num g.x g.y g.d ⟨#[]⟩ h.r h.c h.st ⟨#[]⟩ 0 0 0 false w2)
              have HBT := Lib.hid (show behT g h = decide (cmpV g.st g.r g.c h.st h.r h.c = 1) from rfl)
              have lM := OM2.out.cell
              have zM := OM2.out.lt
              have l18 := O18.out.cell
              have z18 := O18.out.lt
              cases hh : hasT m.f g
              · rw [hh] at CH HSTL
                clear hh
                go_upto_region 27 with (first
                | (go_at_call 21; refine (CH _ (HM.out.lf.later BELr.out (Nat.le_refl _))).out.mono ?_; rintro e wk ⟨rfl, hb⟩; clear l16 z16 lM zM l18 z18; replace RS := Lib.hid (RS.out.later hb); replace OM2 := Lib.hid (OM2.out.later hb); replace OB2 := Lib.hid (OB2.out.later hb); replace O16 := Lib.hid (O16.out.later hb); replace O17 := Lib.hid (O17.out.later hb); replace O18 := Lib.hid (O18.out.later hb); replace BELr := Lib.hid (BELr.out.trans (Below.mono hb BELr.out.size)); replace BE17 := Lib.hid (BE17.out.trans (Below.mono hb BE17.out.size)); clear hb; have l16 := O16.out.cell; have z16 := O16.out.lt; have l18 := O18.out.cell; have z18 := O18.out.lt; have lM := OM2.out.cell; have zM := OM2.out.lt)
                | fail)
                clear CH
                cases hbt : decide (cmpV g.st g.r g.c h.st h.r h.c = 1)
                · rw [hbt] at CBH HBT
                  clear hbt
                  have HS1 := Lib.hid (ansF_no HX.out (show leftB all m h = false by rw [HSTL.out, HBT.out]; rfl))
                  go_wp2_with (first
                  | (go_at_call 62; refine (CBH _).out.mono ?_; rintro e wn ⟨rfl, hb⟩; clear l16 z16 lM zM l18 z18; replace RS := Lib.hid (RS.out.later hb); replace OM2 := Lib.hid (OM2.out.later hb); replace OB2 := Lib.hid (OB2.out.later hb); replace O16 := Lib.hid (O16.out.later hb); replace O17 := Lib.hid (O17.out.later hb); replace O18 := Lib.hid (O18.out.later hb); replace BELr := Lib.hid (BELr.out.trans (Below.mono hb BELr.out.size)); replace BE17 := Lib.hid (BE17.out.trans (Below.mono hb BE17.out.size)); clear hb; have l16 := O16.out.cell; have z16 := O16.out.lt; have l18 := O18.out.cell; have z18 := O18.out.lt; have lM := OM2.out.cell; have zM := OM2.out.lt)
                  | fail)
                  go_roundw
                  case rel => exact ⟨q + 1, vL, by omega, by go_num, Lib.hid (by dsimp only; rw [HS1.out, HS2.out, HFA.out, HGA.out]; exact RS.out)⟩
                  case measure => simp [intOf]; omega
                · rw [hbt] at CBH HBT
                  clear hbt
                  have HS1 := Lib.hid (ansF_yes HX.out (show leftB all m h = true by rw [HSTL.out, HBT.out]; rfl))
                  go_upto_region 28 with (first
                  | (go_at_call 62; refine (CBH _).out.mono ?_; rintro e wn ⟨rfl, hb⟩; clear l16 z16 lM zM l18 z18; replace RS := Lib.hid (RS.out.later hb); replace OM2 := Lib.hid (OM2.out.later hb); replace OB2 := Lib.hid (OB2.out.later hb); replace O16 := Lib.hid (O16.out.later hb); replace O17 := Lib.hid (O17.out.later hb); replace O18 := Lib.hid (O18.out.later hb); replace BELr := Lib.hid (BELr.out.trans (Below.mono hb BELr.out.size)); replace BE17 := Lib.hid (BE17.out.trans (Below.mono hb BE17.out.size)); clear hb; have l16 := O16.out.cell; have z16 := O16.out.lt; have l18 := O18.out.cell; have z18 := O18.out.lt; have lM := OM2.out.cell; have zM := OM2.out.lt)
                  | fail)
                  clear CBH l16 z16 lM zM
                  go_upto_region 29 with (first
                  | (refine wpList_load_mid (by rfl) 66 _ (by rfl) wg.heap.size 1 (by rfl) [.int .i64 g.r, .int .i64 g.c] _ (by exact O18.out.part 1 _ (by rfl)) Tryz.underlying66 (by rfl) (by kernel_rfl) ?_)
                  | (refine wpList_store_mid (by rfl) 66 _ _ (by rfl) VO16.heap.size 9 #[.int .i64 g.r, .int .i64 g.c] (by rfl) (by rfl) (O17.out.thereN (off := 9) (n := 2) (by simp)) (by kernel_rfl) (by simp [Value.oneCell']) ?_)
                  | fail)
                  clear l18 z18
                  have HK9 := Lib.hid (And.intro (setNew2 h g.r g.c ▸ own_setsN [.int .i64 g.r, .int .i64 g.c] 9 O17.out) (And.intro (below_setsN (B := w.heap.size) (b := VO16.heap.size) (by have := RS0.out.b.size; have := HZ.out; omega) [.int .i64 g.r, .int .i64 g.c] 9 BELr.out) (below_setsN (B := VO16.heap.size) (b := VO16.heap.size) (Nat.le_refl _) [.int .i64 g.r, .int .i64 g.c] 9 BE17.out)))
                  clear O16 O18 O17 OM2 OB2 RS BELr BE17
                  revert HK9
                  generalize World.setCells _ _ _ _ = V28
                  intro HK9
                  try simp only [Act.put]
                  have RS := Lib.hid (RS0.out.later HK9.out.2.2)
                  have l17 := (show Own _ _ #[.string h.id, .int .i64 h.r, .int .i64 h.c, .int .i64 0, .string ⟨#[]⟩, .int .i64 0, .complex .f64 0 0, .bool false, .bool true, .int .i64 g.r, .int .i64 g.c] 70 from HK9.out.1).cell
                  have z17 := HK9.out.1.lt
                  have HP := Lib.hid (fun ty => run_push_en2 ty (goneE h g.r g.c) RS.out.r9 (by have := HLF.out; omega) RS.out.b.size)
                  go_wp2_with (first | (at_builtin; obtain ⟨g9, c9, w9, hrun, hown, hgr, hw9⟩ := HP.out _; refine Lib.wpList_append_run _ rfl _ _ _ _ rfl _ _ rfl rfl _ _ hrun ?_; clear l17 z17; have RS9 := Lib.hid (RS.out.push9 hown hgr hw9); clear hown hgr hrun HP) | fail)
                  go_roundw
                  case rel => exact ⟨q + 1, vL, by omega, by go_num, Lib.hid (by dsimp only; rw [HS1.out, HS2.out, HFA.out, HGA.out, HFN.out]; exact RS9.out)⟩
                  case measure => simp [intOf]; omega
              · rw [hh] at CH HSTL
                clear hh
                have HS1 := Lib.hid (ansF_no HX.out (show leftB all m h = false by rw [HSTL.out]; rfl))
                go_wp2_with (first
                | (go_at_call 21; refine (CH _ (HM.out.lf.later BELr.out (Nat.le_refl _))).out.mono ?_; rintro e wk ⟨rfl, hb⟩; clear l16 z16 lM zM l18 z18; replace RS := Lib.hid (RS.out.later hb); replace OM2 := Lib.hid (OM2.out.later hb); replace OB2 := Lib.hid (OB2.out.later hb); replace O16 := Lib.hid (O16.out.later hb); replace O17 := Lib.hid (O17.out.later hb); replace O18 := Lib.hid (O18.out.later hb); replace BELr := Lib.hid (BELr.out.trans (Below.mono hb BELr.out.size)); replace BE17 := Lib.hid (BE17.out.trans (Below.mono hb BE17.out.size)); clear hb; have l16 := O16.out.cell; have z16 := O16.out.lt; have l18 := O18.out.cell; have z18 := O18.out.lt; have lM := OM2.out.cell; have zM := OM2.out.lt)
                | fail)
                go_roundw
                case rel => exact ⟨q + 1, vL, by omega, by go_num, Lib.hid (by dsimp only; rw [HS1.out, HS2.out, HFA.out, HGA.out]; exact RS.out)⟩
                case measure => simp [intOf]; omega
          · have e : q = hlen := by omega
            subst e
            have HFE := Lib.hid (show ansF all m (m.has.take q) = ansE s m by unfold ansF ansE; rw [List.take_of_length_le (by rw [HLENH.out]; exact Nat.le_refl _), HALL.out])
            have HGE := Lib.hid (show ansG s all inn (m.has.take q) = ansG s all inn m.has by rw [List.take_of_length_le (by rw [HLENH.out]; exact Nat.le_refl _)])
            have HLF := Lib.hid (Nat.le_trans (ansF_len all m (m.has.take q)) (by rw [HLEN.out, List.length_take, HLENH.out]; have := HLE.out; omega : _ ≤ 2000))
            rw [HFE.out, HGE.out] at RS
            rw [HFE.out] at HLF
            clear hq hlt2 HFE HGE HMH
            generalize hA : ansE s m = A at *
            have HAE := Lib.hid hA
            clear hA
            generalize hBE : ansG s all inn m.has = B at *
            have HBE := Lib.hid hBE
            clear hBE
            obtain ⟨o9, c9, rfl⟩ := RS.out.r9.val
            have HNL := Lib.hid (rfl : A.length = A.length)
            generalize hna : A.length = na at *
            have HNA := Lib.hid hna
            clear hna HNL
            have R3 : Hid (R3S W8 b13 (fun vL => mgA (endR m turn K []) nilV kvv nilV vL) A B (.slice o9 na c9) vL (batsM m turn A 0) [] nilV wr) := Lib.hid ⟨RS.out, rfl, OwnG.nil, fun x hx => by simp at hx⟩
            clear RS OM2
            go_wp2_with fail
            clear lM zM
            go_loopw [21, 22] (fun v21 iv wr => R3Rel W8 b13 (fun vL => mgA (endR m turn K []) nilV kvv nilV vL) A B (.slice o9 na c9) vL m turn na v21 iv wr) (fun _ iv _ => na + 4 - (intOf iv).toNat)
            case atStart => exact ⟨0, 0, [], by omega, rfl, Lib.hid rfl, R3⟩
            case round =>
              clear R3
              obtain ⟨j, t, L, hj, rfl, HTJ, R3⟩ := hrel
              by_cases hlt3 : t < na
              · obtain ⟨o21, c21, rfl⟩ := R3.out.r.val
                have hrow : wr.ownsRow W8.heap.size 70 11 (.slice o9 na c9) na (gC ec A) := by have := R3.out.q.r9; unfold OwnG at this; rwa [HNA.out] at this
                obtain ⟨oa', cap', g9, e9, hc1, hc2, hg9⟩ := row_slice hrow
                obtain ⟨rfl, rfl⟩ : o9 = oa' ∧ c9 = cap' := by
                  simp only [Value.slice.injEq] at e9
                  exact ⟨e9.1, e9.2.2⟩
                obtain ⟨rfl, hgb, hgs⟩ := hg9 (by omega)
                unfold maxLen at hc2
                have hcut := fun (en : Nat) (he : en = min (t + 4) na) (w2 : World) (h : OwnG 70 11 ec w2 W8.heap.size A (.slice (some ⟨g9, 0, none⟩) na c9)) => cut_row (w := w2) (base := W8.heap.size) (g9 := g9) (c9 := c9) (j := j) (en := en) (by unfold OwnG at h; rwa [HNA.out] at h) HNA.out HTJ.out hlt3 he
                have HCUT := Lib.hid hcut
                clear hrow hcut e9 hg9 hgb
                generalize hll : L.length = nl at *
                have HLL := Lib.hid hll
                clear hll
                have OM4 := Lib.hid (OM.out.later R3.out.q.b)
                have BELr := Lib.hid (BEL.out.trans (Below.mono R3.out.q.b BEL.out.size))
                have t0 : (0 : Int) ≤ (t : Int) := by omega
                have t1 : (t : Int) < (na : Int) := by omega
                have t2 : (t : Int) + 4 ≤ 9223372036854775807 := by have := HLF.out; omega
                have hwj : IntKind.i64.wrap (j : Int) = (j : Int) := by have := HTJ.out; have := HLF.out; rw [IntKind.wrap_i64]; omega
                have i2 : ¬ c9 = t := by omega
                have hq4 : Int.tdiv (t : Int) 4 = (j : Int) := by have := HTJ.out; rw [Int.tdiv_eq_ediv_of_nonneg (by omega)]; omega
                have ways : (na < t + 4 ∧ (∃ en, na = en ∧ Hid (en = min (t + 4) na))) ∨ (¬ na < t + 4 ∧ (∃ en, t + 4 = en ∧ Hid (en = min (t + 4) na))) := by
                  by_cases h : na < t + 4
                  · exact .inl ⟨h, na, rfl, Lib.hid (by omega)⟩
                  · exact .inr ⟨h, t + 4, rfl, Lib.hid (by omega)⟩
                rcases ways with ⟨hw, en, rfl, HEN⟩ | ⟨hw, en, rfl, HEN⟩
                · have hw2 : (na : Int) < (t : Int) + 4 := by omega
                  have i1 : t ≤ na := by omega
                  go_upto_region 37 with fail
                  refine monoN_start (T := fun k => (Value.slice o21 nl c21).ownBlock = some k) (D := fun k => k == 18) (by kernel_rfl) (fun wd hbd => ?_)
                  replace OM4 := Lib.hid (OM4.out.later hbd)
                  replace BELr := Lib.hid (BELr.out.trans (Below.mono hbd BELr.out.size))
                  replace R3 := Lib.hid (R3.out.later hbd)
                  clear hbd
                  refine monoN_stay (i := 0) (v := ?_) rfl (by kernel_rfl) (by kernel_rfl) (by kernel_rfl) (fun _ _ _ h => h) (Or.inl ⟨by rfl, ?_⟩) ?_
                  rotate_left 1
                  · (intro wL hL; go_simp; try with_reducible rfl)
                  try simp only [Act.put, List.getElem_toArray, List.getElem_cons_zero, List.getElem_cons_succ, List.setIfInBounds_toArray, List.set_cons_zero, List.set_cons_succ]
                  refine monoN_stay (i := 1) (v := ?_) rfl (by kernel_rfl) (by kernel_rfl) (by kernel_rfl) (fun _ _ _ h => h) (Or.inl ⟨by rfl, ?_⟩) ?_
                  rotate_left 1
                  · (intro wL hL; go_simp; try with_reducible rfl)
                  try simp only [Act.put, List.getElem_toArray, List.getElem_cons_zero, List.getElem_cons_succ, List.setIfInBounds_toArray, List.set_cons_zero, List.set_cons_succ]
                  refine monoN_stay (i := 2) (v := ?_) rfl (by kernel_rfl) (by kernel_rfl) (by kernel_rfl) (fun _ _ _ h => h) (Or.inl ⟨by rfl, ?_⟩) ?_
                  rotate_left 1
                  · (intro wL hL; have lL := (OM4.out.but hL (fun h => own_ne R3.out.r (by have := HZ.out; have := HB8.out; omega) h.symm)).cell; have zL := (OM4.out.but hL (fun h => own_ne R3.out.r (by have := HZ.out; have := HB8.out; omega) h.symm)).lt; go_simp; try with_reducible rfl)
                  try simp only [Act.put, List.getElem_toArray, List.getElem_cons_zero, List.getElem_cons_succ, List.setIfInBounds_toArray, List.set_cons_zero, List.set_cons_succ]
                  refine monoN_stay (i := 3) (v := ?_) rfl (by kernel_rfl) (by kernel_rfl) (by kernel_rfl) (fun _ _ _ h => h) (Or.inl ⟨by rfl, ?_⟩) ?_
                  rotate_left 1
                  · (intro wL hL; go_simp; try with_reducible rfl)
                  try simp only [Act.put, List.getElem_toArray, List.getElem_cons_zero, List.getElem_cons_succ, List.setIfInBounds_toArray, List.set_cons_zero, List.set_cons_succ]
                  refine monoN_stay (i := 4) (v := ?_) rfl (by kernel_rfl) (by kernel_rfl) (by kernel_rfl) (fun _ _ _ h => h) (Or.inl ⟨by rfl, ?_⟩) ?_
                  rotate_left 1
                  · (intro wL hL; have lL := (OM4.out.but hL (fun h => own_ne R3.out.r (by have := HZ.out; have := HB8.out; omega) h.symm)).cell; have zL := (OM4.out.but hL (fun h => own_ne R3.out.r (by have := HZ.out; have := HB8.out; omega) h.symm)).lt; go_simp; try with_reducible rfl)
                  try simp only [Act.put, List.getElem_toArray, List.getElem_cons_zero, List.getElem_cons_succ, List.setIfInBounds_toArray, List.set_cons_zero, List.set_cons_succ]
                  refine monoN_stay (i := 5) (v := ?_) rfl (by kernel_rfl) (by kernel_rfl) (by kernel_rfl) (fun _ _ _ h => h) (Or.inl ⟨by rfl, ?_⟩) ?_
                  rotate_left 1
                  · (intro wL hL; go_simp; try with_reducible rfl)
                  try simp only [Act.put, List.getElem_toArray, List.getElem_cons_zero, List.getElem_cons_succ, List.setIfInBounds_toArray, List.set_cons_zero, List.set_cons_succ]
                  refine monoN_stay (i := 6) (v := ?_) rfl (by kernel_rfl) (by kernel_rfl) (by kernel_rfl) (fun _ _ _ h => h) (Or.inl ⟨by rfl, ?_⟩) ?_
                  rotate_left 1
                  · (intro wL hL; have lL := (OM4.out.but hL (fun h => own_ne R3.out.r (by have := HZ.out; have := HB8.out; omega) h.symm)).cell; have zL := (OM4.out.but hL (fun h => own_ne R3.out.r (by have := HZ.out; have := HB8.out; omega) h.symm)).lt; go_simp; try with_reducible rfl)
                  try simp only [Act.put, List.getElem_toArray, List.getElem_cons_zero, List.getElem_cons_succ, List.setIfInBounds_toArray, List.set_cons_zero, List.set_cons_succ]
                  refine monoN_stay (i := 7) (v := ?_) rfl (by kernel_rfl) (by kernel_rfl) (by kernel_rfl) (fun _ _ _ h => h) (Or.inl ⟨by rfl, ?_⟩) ?_
                  rotate_left 1
                  · (intro wL hL; go_simp; try with_reducible rfl)
                  try simp only [Act.put, List.getElem_toArray, List.getElem_cons_zero, List.getElem_cons_succ, List.setIfInBounds_toArray, List.set_cons_zero, List.set_cons_succ]
                  refine monoN_stay (i := 8) (v := ?_) rfl (by kernel_rfl) (by kernel_rfl) (by kernel_rfl) (fun _ _ _ h => h) (Or.inl ⟨by rfl, ?_⟩) ?_
                  rotate_left 1
                  · (intro wL hL; go_simp; try with_reducible rfl)
                  try simp only [Act.put, List.getElem_toArray, List.getElem_cons_zero, List.getElem_cons_succ, List.setIfInBounds_toArray, List.set_cons_zero, List.set_cons_succ]
                  refine monoN_stay (i := 9) (v := ?_) rfl (by kernel_rfl) (by kernel_rfl) (by kernel_rfl) (fun _ _ _ h => h) (Or.inl ⟨by rfl, ?_⟩) ?_
                  rotate_left 1
                  · (intro wL hL; go_simp; try with_reducible rfl)
                  try simp only [Act.put, List.getElem_toArray, List.getElem_cons_zero, List.getElem_cons_succ, List.setIfInBounds_toArray, List.set_cons_zero, List.set_cons_succ]
                  refine monoN_stay (i := 11) (v := ?_) rfl (by kernel_rfl) (by kernel_rfl) (by kernel_rfl) (fun _ _ _ h => h) (Or.inl ⟨by rfl, ?_⟩) ?_
                  rotate_left 1
                  · (intro wL hL; go_simp; try with_reducible rfl)
                  try simp only [Act.put, List.getElem_toArray, List.getElem_cons_zero, List.getElem_cons_succ, List.setIfInBounds_toArray, List.set_cons_zero, List.set_cons_succ]
                  refine monoN_stay (i := 12) (v := ?_) rfl (by kernel_rfl) (by kernel_rfl) (by kernel_rfl) (fun _ _ _ h => h) (Or.inl ⟨by rfl, ?_⟩) ?_
                  rotate_left 1
                  · (intro wL hL; go_simp; try with_reducible rfl)
                  try simp only [Act.put, List.getElem_toArray, List.getElem_cons_zero, List.getElem_cons_succ, List.setIfInBounds_toArray, List.set_cons_zero, List.set_cons_succ]
                  refine monoN_stay (i := 13) (v := ?_) rfl (by kernel_rfl) (by kernel_rfl) (by kernel_rfl) (fun _ _ _ h => h) (Or.inl ⟨by rfl, ?_⟩) ?_
                  rotate_left 1
                  · (intro wL hL; go_simp; try with_reducible rfl)
                  try simp only [Act.put, List.getElem_toArray, List.getElem_cons_zero, List.getElem_cons_succ, List.setIfInBounds_toArray, List.set_cons_zero, List.set_cons_succ]
                  refine monoN_stay (i := 14) (v := ?_) rfl (by kernel_rfl) (by kernel_rfl) (by kernel_rfl) (fun _ _ _ h => h) (Or.inl ⟨by rfl, ?_⟩) ?_
                  rotate_left 1
                  · (intro wL hL; go_simp; try with_reducible rfl)
                  try simp only [Act.put, List.getElem_toArray, List.getElem_cons_zero, List.getElem_cons_succ, List.setIfInBounds_toArray, List.set_cons_zero, List.set_cons_succ]
                  refine monoN_r1 (i := 10) (by kernel_rfl) ?_
                  refine stepN_new (by rfl) (by rfl) (fun b => .slice (some ⟨b, 0, none⟩) 0 0) #[] 70 (by go_simp; try rfl) (fun b10 wn h10 hb o10 => ?_)
                  replace OM4 := Lib.hid (OM4.out.later hb)
                  replace BELr := Lib.hid (BELr.out.trans (Below.mono hb BELr.out.size))
                  replace R3 := Lib.hid (R3.out.later hb)
                  clear hb h10
                  have O10 := Lib.hid o10
                  clear o10
                  try simp only [Act.put, List.getElem_toArray, List.getElem_cons_zero, List.getElem_cons_succ, List.setIfInBounds_toArray, List.set_cons_zero, List.set_cons_succ]
                  refine monoN_r1 (i := 15) (by kernel_rfl) ?_
                  obtain ⟨o15, c15, w15, hr15, ho15, hb15⟩ := run_clone_en _ O10.out (HCUT.out _ HEN.out _ R3.out.q.r9) (by have := (cutE_len (A := A) (j := j) HNA.out HTJ.out hlt3 HEN.out); have := HLF.out; omega) (by have := (cutE_len (A := A) (j := j) HNA.out HTJ.out hlt3 HEN.out); have := HLF.out; omega) (base := W8.heap.size) R3.out.q.b.size
                  refine stepN_ok (by rfl) (by rfl) (exec_append _ _ _ _ (by rfl) _ _ (by rfl) (by rfl) hr15) (fun _ => hb15) (But.of hb15) ?_
                  clear hr15
                  replace OM4 := Lib.hid (OM4.out.later hb15)
                  replace BELr := Lib.hid (BELr.out.trans (Below.mono hb15 BELr.out.size))
                  replace R3 := Lib.hid (R3.out.later hb15)
                  have OE := Lib.hid ho15
                  clear ho15 hb15 O10
                  try simp only [Act.put, List.getElem_toArray, List.getElem_cons_zero, List.getElem_cons_succ, List.setIfInBounds_toArray, List.set_cons_zero, List.set_cons_succ]
                  refine monoN_stay (i := 16) (v := ?_) rfl (by kernel_rfl) (by kernel_rfl) (by kernel_rfl) (fun _ _ _ h => h) (Or.inl ⟨by rfl, ?_⟩) ?_
                  rotate_left 1
                  · (intro wL hL; go_simp; try with_reducible rfl)
                  try simp only [Act.put, List.getElem_toArray, List.getElem_cons_zero, List.getElem_cons_succ, List.setIfInBounds_toArray, List.set_cons_zero, List.set_cons_succ]
                  refine monoN_r1 (i := 17) (by kernel_rfl) ?_
                  refine stepN_ok (v := .slice (some ⟨w15.heap.size, 0, none⟩) 1 1) (w1 := w15.alloc (.cells (mgA (batM m turn j (cutE A j)) nilV nilV nilV (.slice o15 (cutE A j).length c15)) 47)) (by rfl) (by rfl) (by go_simp; try rfl) (fun _ => (Below.refl _ _).alloc (Nat.le_refl _) _) (But.of ((Below.refl _ _).alloc (Nat.le_refl _) _)) ?_
                  try simp only [Act.put, List.getElem_toArray, List.getElem_cons_zero, List.getElem_cons_succ, List.setIfInBounds_toArray, List.set_cons_zero, List.set_cons_succ]
                  refine monoN_r1 (i := 18) (by kernel_rfl) ?_
                  have hLj : L.length = j := by have := congrArg List.length R3.out.e; rw [List.length_map, bats_len] at this; exact this
                  obtain ⟨g18, c18, w18, hr18, ho18, hg18⟩ := run_push_mg _ (⟨batM m turn j (cutE A j), nilV, nilV, nilV, .slice o15 (cutE A j).length c15⟩ : Mv) R3.out.r ⟨rfl, rfl, rfl, rfl⟩ (by have := HTJ.out; have := HLF.out; omega) R3.out.q.d.lt
                  refine stepN_ok (by rfl) (by rfl) (exec_append _ _ _ _ (by rfl) _ _ (by rfl) (by rfl) hr18) (fun h => by cases h) ((AppR.of hg18).but.mono' (fun k hk => hk.symm)) ?_
                  have R9 := Lib.hid (R3S.push (x := (⟨batM m turn j (cutE A j), nilV, nilV, nilV, .slice o15 (cutE A j).length c15⟩ : Mv)) R3.out ⟨OE.out, rfl, rfl, rfl, rfl, rfl, rfl⟩ HB8.out ho18 hg18)
                  clear hr18 ho18 hg18 R3 OM4 BELr OE hLj
                  try simp only [Act.put, List.getElem_toArray, List.getElem_cons_zero, List.getElem_cons_succ, List.setIfInBounds_toArray, List.set_cons_zero, List.set_cons_succ]
                  refine monoN_stay (i := 19) (v := ?_) rfl (by kernel_rfl) (by kernel_rfl) (by kernel_rfl) (fun _ _ _ h => h) (Or.inl ⟨by rfl, ?_⟩) ?_
                  rotate_left 1
                  · (intro wL hL; go_simp; try with_reducible rfl)
                  try simp only [Act.put, List.getElem_toArray, List.getElem_cons_zero, List.getElem_cons_succ, List.setIfInBounds_toArray, List.set_cons_zero, List.set_cons_succ]
                  refine monoN_done (by kernel_rfl) ?_ _
                  go_wp2_with fail
                  go_roundw
                  case rel => exact ⟨j + 1, t + 4, _, by omega, by go_num, Lib.hid (by have := HTJ.out; omega), Lib.hid (by rw [bats_step]; exact R9.out)⟩
                  case measure => simp [intOf]; omega
                · have hw2 : ¬ (na : Int) < (t : Int) + 4 := by omega
                  have i1 : t ≤ t + 4 := by omega
                  have i3 : t + 4 ≤ c9 := by omega
                  have i4 : (t : Int) ≤ (t : Int) + 4 := by omega
                  have i5 : (t : Int) + 4 ≤ (c9 : Int) := by omega
                  have i6 : (0 : Int) ≤ (t : Int) + 4 := by omega
                  have i7 : ((t : Int) + 4).toNat = t + 4 := by omega
                  go_upto_region 37 with fail
                  refine monoN_start (T := fun k => (Value.slice o21 nl c21).ownBlock = some k) (D := fun k => k == 18) (by kernel_rfl) (fun wd hbd => ?_)
                  replace OM4 := Lib.hid (OM4.out.later hbd)
                  replace BELr := Lib.hid (BELr.out.trans (Below.mono hbd BELr.out.size))
                  replace R3 := Lib.hid (R3.out.later hbd)
                  clear hbd
                  refine monoN_stay (i := 0) (v := ?_) rfl (by kernel_rfl) (by kernel_rfl) (by kernel_rfl) (fun _ _ _ h => h) (Or.inl ⟨by rfl, ?_⟩) ?_
                  rotate_left 1
                  · (intro wL hL; go_simp; try with_reducible rfl)
                  try simp only [Act.put, List.getElem_toArray, List.getElem_cons_zero, List.getElem_cons_succ, List.setIfInBounds_toArray, List.set_cons_zero, List.set_cons_succ]
                  refine monoN_stay (i := 1) (v := ?_) rfl (by kernel_rfl) (by kernel_rfl) (by kernel_rfl) (fun _ _ _ h => h) (Or.inl ⟨by rfl, ?_⟩) ?_
                  rotate_left 1
                  · (intro wL hL; go_simp; try with_reducible rfl)
                  try simp only [Act.put, List.getElem_toArray, List.getElem_cons_zero, List.getElem_cons_succ, List.setIfInBounds_toArray, List.set_cons_zero, List.set_cons_succ]
                  refine monoN_stay (i := 2) (v := ?_) rfl (by kernel_rfl) (by kernel_rfl) (by kernel_rfl) (fun _ _ _ h => h) (Or.inl ⟨by rfl, ?_⟩) ?_
                  rotate_left 1
                  · (intro wL hL; have lL := (OM4.out.but hL (fun h => own_ne R3.out.r (by have := HZ.out; have := HB8.out; omega) h.symm)).cell; have zL := (OM4.out.but hL (fun h => own_ne R3.out.r (by have := HZ.out; have := HB8.out; omega) h.symm)).lt; go_simp; try with_reducible rfl)
                  try simp only [Act.put, List.getElem_toArray, List.getElem_cons_zero, List.getElem_cons_succ, List.setIfInBounds_toArray, List.set_cons_zero, List.set_cons_succ]
                  refine monoN_stay (i := 3) (v := ?_) rfl (by kernel_rfl) (by kernel_rfl) (by kernel_rfl) (fun _ _ _ h => h) (Or.inl ⟨by rfl, ?_⟩) ?_
                  rotate_left 1
                  · (intro wL hL; go_simp; try with_reducible rfl)
                  try simp only [Act.put, List.getElem_toArray, List.getElem_cons_zero, List.getElem_cons_succ, List.setIfInBounds_toArray, List.set_cons_zero, List.set_cons_succ]
                  refine monoN_stay (i := 4) (v := ?_) rfl (by kernel_rfl) (by kernel_rfl) (by kernel_rfl) (fun _ _ _ h => h) (Or.inl ⟨by rfl, ?_⟩) ?_
                  rotate_left 1
                  · (intro wL hL; have lL := (OM4.out.but hL (fun h => own_ne R3.out.r (by have := HZ.out; have := HB8.out; omega) h.symm)).cell; have zL := (OM4.out.but hL (fun h => own_ne R3.out.r (by have := HZ.out; have := HB8.out; omega) h.symm)).lt; go_simp; try with_reducible rfl)
                  try simp only [Act.put, List.getElem_toArray, List.getElem_cons_zero, List.getElem_cons_succ, List.setIfInBounds_toArray, List.set_cons_zero, List.set_cons_succ]
                  refine monoN_stay (i := 5) (v := ?_) rfl (by kernel_rfl) (by kernel_rfl) (by kernel_rfl) (fun _ _ _ h => h) (Or.inl ⟨by rfl, ?_⟩) ?_
                  rotate_left 1
                  · (intro wL hL; go_simp; try with_reducible rfl)
                  try simp only [Act.put, List.getElem_toArray, List.getElem_cons_zero, List.getElem_cons_succ, List.setIfInBounds_toArray, List.set_cons_zero, List.set_cons_succ]
                  refine monoN_stay (i := 6) (v := ?_) rfl (by kernel_rfl) (by kernel_rfl) (by kernel_rfl) (fun _ _ _ h => h) (Or.inl ⟨by rfl, ?_⟩) ?_
                  rotate_left 1
                  · (intro wL hL; have lL := (OM4.out.but hL (fun h => own_ne R3.out.r (by have := HZ.out; have := HB8.out; omega) h.symm)).cell; have zL := (OM4.out.but hL (fun h => own_ne R3.out.r (by have := HZ.out; have := HB8.out; omega) h.symm)).lt; go_simp; try with_reducible rfl)
                  try simp only [Act.put, List.getElem_toArray, List.getElem_cons_zero, List.getElem_cons_succ, List.setIfInBounds_toArray, List.set_cons_zero, List.set_cons_succ]
                  refine monoN_stay (i := 7) (v := ?_) rfl (by kernel_rfl) (by kernel_rfl) (by kernel_rfl) (fun _ _ _ h => h) (Or.inl ⟨by rfl, ?_⟩) ?_
                  rotate_left 1
                  · (intro wL hL; go_simp; try with_reducible rfl)
                  try simp only [Act.put, List.getElem_toArray, List.getElem_cons_zero, List.getElem_cons_succ, List.setIfInBounds_toArray, List.set_cons_zero, List.set_cons_succ]
                  refine monoN_stay (i := 8) (v := ?_) rfl (by kernel_rfl) (by kernel_rfl) (by kernel_rfl) (fun _ _ _ h => h) (Or.inl ⟨by rfl, ?_⟩) ?_
                  rotate_left 1
                  · (intro wL hL; go_simp; try with_reducible rfl)
                  try simp only [Act.put, List.getElem_toArray, List.getElem_cons_zero, List.getElem_cons_succ, List.setIfInBounds_toArray, List.set_cons_zero, List.set_cons_succ]
                  refine monoN_stay (i := 9) (v := ?_) rfl (by kernel_rfl) (by kernel_rfl) (by kernel_rfl) (fun _ _ _ h => h) (Or.inl ⟨by rfl, ?_⟩) ?_
                  rotate_left 1
                  · (intro wL hL; go_simp; try with_reducible rfl)
                  try simp only [Act.put, List.getElem_toArray, List.getElem_cons_zero, List.getElem_cons_succ, List.setIfInBounds_toArray, List.set_cons_zero, List.set_cons_succ]
                  refine monoN_stay (i := 11) (v := ?_) rfl (by kernel_rfl) (by kernel_rfl) (by kernel_rfl) (fun _ _ _ h => h) (Or.inl ⟨by rfl, ?_⟩) ?_
                  rotate_left 1
                  · (intro wL hL; go_simp; try with_reducible rfl)
                  try simp only [Act.put, List.getElem_toArray, List.getElem_cons_zero, List.getElem_cons_succ, List.setIfInBounds_toArray, List.set_cons_zero, List.set_cons_succ]
                  refine monoN_stay (i := 12) (v := ?_) rfl (by kernel_rfl) (by kernel_rfl) (by kernel_rfl) (fun _ _ _ h => h) (Or.inl ⟨by rfl, ?_⟩) ?_
                  rotate_left 1
                  · (intro wL hL; go_simp; try with_reducible rfl)
                  try simp only [Act.put, List.getElem_toArray, List.getElem_cons_zero, List.getElem_cons_succ, List.setIfInBounds_toArray, List.set_cons_zero, List.set_cons_succ]
                  refine monoN_stay (i := 13) (v := ?_) rfl (by kernel_rfl) (by kernel_rfl) (by kernel_rfl) (fun _ _ _ h => h) (Or.inl ⟨by rfl, ?_⟩) ?_
                  rotate_left 1
                  · (intro wL hL; go_simp; try with_reducible rfl)
                  try simp only [Act.put, List.getElem_toArray, List.getElem_cons_zero, List.getElem_cons_succ, List.setIfInBounds_toArray, List.set_cons_zero, List.set_cons_succ]
                  refine monoN_stay (i := 14) (v := ?_) rfl (by kernel_rfl) (by kernel_rfl) (by kernel_rfl) (fun _ _ _ h => h) (Or.inl ⟨by rfl, ?_⟩) ?_
                  rotate_left 1
                  · (intro wL hL; go_simp; try with_reducible rfl)
                  try simp only [Act.put, List.getElem_toArray, List.getElem_cons_zero, List.getElem_cons_succ, List.setIfInBounds_toArray, List.set_cons_zero, List.set_cons_succ]
                  refine monoN_r1 (i := 10) (by kernel_rfl) ?_
                  refine stepN_new (by rfl) (by rfl) (fun b => .slice (some ⟨b, 0, none⟩) 0 0) #[] 70 (by go_simp; try rfl) (fun b10 wn h10 hb o10 => ?_)
                  replace OM4 := Lib.hid (OM4.out.later hb)
                  replace BELr := Lib.hid (BELr.out.trans (Below.mono hb BELr.out.size))
                  replace R3 := Lib.hid (R3.out.later hb)
                  clear hb h10
                  have O10 := Lib.hid o10
                  clear o10
                  try simp only [Act.put, List.getElem_toArray, List.getElem_cons_zero, List.getElem_cons_succ, List.setIfInBounds_toArray, List.set_cons_zero, List.set_cons_succ]
                  refine monoN_r1 (i := 15) (by kernel_rfl) ?_
                  obtain ⟨o15, c15, w15, hr15, ho15, hb15⟩ := run_clone_en _ O10.out (HCUT.out _ HEN.out _ R3.out.q.r9) (by have := (cutE_len (A := A) (j := j) HNA.out HTJ.out hlt3 HEN.out); have := HLF.out; omega) (by have := (cutE_len (A := A) (j := j) HNA.out HTJ.out hlt3 HEN.out); have := HLF.out; omega) (base := W8.heap.size) R3.out.q.b.size
                  rw [show t + 4 - t = 4 by omega] at hr15
                  refine stepN_ok (by rfl) (by rfl) (exec_append _ _ _ _ (by rfl) _ _ (by rfl) (by rfl) hr15) (fun _ => hb15) (But.of hb15) ?_
                  clear hr15
                  replace OM4 := Lib.hid (OM4.out.later hb15)
                  replace BELr := Lib.hid (BELr.out.trans (Below.mono hb15 BELr.out.size))
                  replace R3 := Lib.hid (R3.out.later hb15)
                  have OE := Lib.hid ho15
                  clear ho15 hb15 O10
                  try simp only [Act.put, List.getElem_toArray, List.getElem_cons_zero, List.getElem_cons_succ, List.setIfInBounds_toArray, List.set_cons_zero, List.set_cons_succ]
                  refine monoN_stay (i := 16) (v := ?_) rfl (by kernel_rfl) (by kernel_rfl) (by kernel_rfl) (fun _ _ _ h => h) (Or.inl ⟨by rfl, ?_⟩) ?_
                  rotate_left 1
                  · (intro wL hL; go_simp; try with_reducible rfl)
                  try simp only [Act.put, List.getElem_toArray, List.getElem_cons_zero, List.getElem_cons_succ, List.setIfInBounds_toArray, List.set_cons_zero, List.set_cons_succ]
                  refine monoN_r1 (i := 17) (by kernel_rfl) ?_
                  refine stepN_ok (v := .slice (some ⟨w15.heap.size, 0, none⟩) 1 1) (w1 := w15.alloc (.cells (mgA (batM m turn j (cutE A j)) nilV nilV nilV (.slice o15 (cutE A j).length c15)) 47)) (by rfl) (by rfl) (by go_simp; try rfl) (fun _ => (Below.refl _ _).alloc (Nat.le_refl _) _) (But.of ((Below.refl _ _).alloc (Nat.le_refl _) _)) ?_
                  try simp only [Act.put, List.getElem_toArray, List.getElem_cons_zero, List.getElem_cons_succ, List.setIfInBounds_toArray, List.set_cons_zero, List.set_cons_succ]
                  refine monoN_r1 (i := 18) (by kernel_rfl) ?_
                  have hLj : L.length = j := by have := congrArg List.length R3.out.e; rw [List.length_map, bats_len] at this; exact this
                  obtain ⟨g18, c18, w18, hr18, ho18, hg18⟩ := run_push_mg _ (⟨batM m turn j (cutE A j), nilV, nilV, nilV, .slice o15 (cutE A j).length c15⟩ : Mv) R3.out.r ⟨rfl, rfl, rfl, rfl⟩ (by have := HTJ.out; have := HLF.out; omega) R3.out.q.d.lt
                  refine stepN_ok (by rfl) (by rfl) (exec_append _ _ _ _ (by rfl) _ _ (by rfl) (by rfl) hr18) (fun h => by cases h) ((AppR.of hg18).but.mono' (fun k hk => hk.symm)) ?_
                  have R9 := Lib.hid (R3S.push (x := (⟨batM m turn j (cutE A j), nilV, nilV, nilV, .slice o15 (cutE A j).length c15⟩ : Mv)) R3.out ⟨OE.out, rfl, rfl, rfl, rfl, rfl, rfl⟩ HB8.out ho18 hg18)
                  clear hr18 ho18 hg18 R3 OM4 BELr OE hLj
                  try simp only [Act.put, List.getElem_toArray, List.getElem_cons_zero, List.getElem_cons_succ, List.setIfInBounds_toArray, List.set_cons_zero, List.set_cons_succ]
                  refine monoN_stay (i := 19) (v := ?_) rfl (by kernel_rfl) (by kernel_rfl) (by kernel_rfl) (fun _ _ _ h => h) (Or.inl ⟨by rfl, ?_⟩) ?_
                  rotate_left 1
                  · (intro wL hL; go_simp; try with_reducible rfl)
                  try simp only [Act.put, List.getElem_toArray, List.getElem_cons_zero, List.getElem_cons_succ, List.setIfInBounds_toArray, List.set_cons_zero, List.set_cons_succ]
                  refine monoN_done (by kernel_rfl) ?_ _
                  go_wp2_with fail
                  go_roundw
                  case rel => exact ⟨j + 1, t + 4, _, by omega, by go_num, Lib.hid (by have := HTJ.out; omega), Lib.hid (by rw [bats_step]; exact R9.out)⟩
                  case measure => simp [intOf]; omega
              · obtain ⟨o21, c21, rfl⟩ := R3.out.r.val
                have hjN := Lib.hid (show j = manyE A by unfold manyE; rw [HNA.out]; have := HTJ.out; omega)
                have hLj := Lib.hid (show L.length = j by have := congrArg List.length R3.out.e; rw [List.length_map, bats_len] at this; exact this)
                have HL2 := Lib.hid (show L.length ≤ 20000 by have := HTJ.out; have := HLF.out; have := hLj.out; omega)
                generalize hll : L.length = nl at *
                have HLL := Lib.hid hll
                clear hll
                have lD := R3.out.q.d.cell
                have zD := R3.out.q.d.lt
                have fD := R3.out.q.d.free
                have hs := StoreR.sets b13 [Value.int .i64 nl] wr 20
                have OD9 := Lib.hid (show Own (wr.setCell ⟨b13, 20, none⟩ (.int .i64 nl)) b13 (mgA (endM m turn nl K B) nilV kvv nilV vL) 47 from R3.out.q.d.set 20 (.int .i64 nl))
                have RW := Lib.hid (show OwnG 47 23 mvC (wr.setCell ⟨b13, 20, none⟩ (.int .i64 nl)) (b13 + 1) L (.slice o21 nl c21) from R3.out.r.stored hs (Nat.lt_succ_self _))
                have RX := Lib.hid (show ∀ x ∈ L, OwnG 70 11 ec (wr.setCell ⟨b13, 20, none⟩ (.int .i64 nl)) W8.heap.size x.m.l x.lv ∧ x.m.f = noP ∧ x.m.k = noK ∧ x.m.has = [] ∧ x.fv = nilV ∧ x.kv = nilV ∧ x.hv = nilV from fun x hx => ⟨(R3.out.x x hx).1.storedBy hs R3.out.q.d et_ne_mt, (R3.out.x x hx).2⟩)
                have RL := Lib.hid (show OwnG 70 11 ec (wr.setCell ⟨b13, 20, none⟩ (.int .i64 nl)) W8.heap.size B vL from R3.out.q.rL.storedBy hs R3.out.q.d et_ne_mt)
                have BELz := Lib.hid (show Below w.heap.size w (wr.setCell ⟨b13, 20, none⟩ (.int .i64 nl)) from (BEL.out.trans (Below.mono R3.out.q.b BEL.out.size)).setCell (p := ⟨b13, 20, none⟩) (by have := HZ.out; have := HB8.out; show _ ≤ b13; omega) _)
                have HEE := Lib.hid R3.out.e
                go_upto_region 39 with fail
                clear lD zD fD hs R3
                revert OD9 RW RX RL BELz
                generalize World.setCell _ _ _ = W38
                intro OD9 RW RX RL BELz
                try simp only [Act.put]
                have HP := Lib.hid (fun ty => run_push_mg ty (⟨endM m turn nl K B, nilV, kvv, nilV, vL⟩ : Mv) RW.out ⟨rfl, HK1.out, rfl, own_len RL.out⟩ (by rw [HLL.out]; exact HL2.out) OD9.out.lt)
                go_wp2_with (first | (refine wpList_load_mid (by rfl) 47 _ (by rfl) b13 0 (by rfl) (mgA (endM m turn nl K B) nilV kvv nilV vL).toList _ (by exact OD9.out.part 0 _ (by rfl)) Tryz.underlying47 (by rfl) (by kernel_rfl) ?_) | (at_builtin; obtain ⟨g9, c9', w9, hrun, hown, hgr⟩ := HP.out _; refine Lib.wpList_append_run _ rfl _ _ _ _ rfl _ _ rfl rfl _ _ hrun ?_) | fail)
                have h1 : Below W38.heap.size W38 (W38.alloc (.cells (mgA (endM m turn nl K B) nilV kvv nilV vL) 47)) := (Below.refl _ _).alloc (Nat.le_refl _) _
                have hbz := below_pushG (B := w.heap.size) (RW.out.later h1) (BELz.out.trans (Below.mono h1 BELz.out.size)) (by have := HZ.out; have := HB8.out; omega) hgr (Nat.le_trans BELz.out.size h1.size)
                have hdone : doneM s m turn (allI s) (manyE A) = endM m turn nl K B := by
                  rw [← hjN.out, ← hLj.out, ← HK.out, ← HBE.out]
                  unfold doneM endM ansG
                  rw [HINN.out, HALL.out]
                have hans : ansM s m turn = batsM m turn A j ++ [endM m turn nl K B] := by
                  unfold ansM
                  rw [if_pos HGO.out, HAE.out, hdone, hjN.out]
                go_ret
                refine ⟨_, rfl, ⟨L ++ [⟨endM m turn nl K B, nilV, kvv, nilV, vL⟩], fun w3 h3 => ⟨by rw [hans, List.map_append, HEE.out]; rfl, (hown.row (fun _ => rfl)).mono (T' := T0) (fun b hb => by have := HT0.out b hb; have := HZ.out; have := HB8.out; show b < _; omega) w3 h3, fun x hx => ?_⟩⟩, hbz⟩
                rcases List.mem_append.1 hx with hx | hx
                · obtain ⟨h4, h5, h6, h7, h8, h9, h10⟩ := RX.out x hx
                  have hT : ∀ b, T0 b → b < W8.heap.size := fun b hb => by have := HT0.out b hb; have := HZ.out; omega
                  refine ⟨by rw [h5, h8]; exact noP_lies w3, by rw [h6, h9]; exact frW_nil' w3, by rw [h7, h10]; exact has_nil w3, ?_⟩
                  exact (((h4.later h1).beside (RW.out.later h1) et_ne_mt hgr).row (fun _ => rfl)).mono hT w3 h3
                · have : x = ⟨endM m turn nl K B, nilV, kvv, nilV, vL⟩ := by simpa using hx
                  subst this
                  have hT : ∀ b, T0 b → b < W8.heap.size := fun b hb => by have := HT0.out b hb; have := HZ.out; omega
                  exact ⟨noP_lies w3, HSK.out _ hbz w3 h3, has_nil w3, (((RL.out.later h1).beside (RW.out.later h1) et_ne_mt hgr).row (fun _ => rfl)).mono hT w3 h3⟩
end Go.Proofs.YthbjgfennclidaaGreat
