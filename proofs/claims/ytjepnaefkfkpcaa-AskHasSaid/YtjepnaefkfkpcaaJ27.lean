/- Joined: AskHas. -/
import Derived.Test.YtjepnaefkfkpcaaJ26
/- AskHas: the law's walk. -/
namespace Go.Proofs.Ytjepnaefkfkpcaa
set_option linter.unusedVariables false
set_option linter.unusedSimpArgs false
set_option maxRecDepth 100000
open Go Go.RowKit
theorem rise_at {s : St} (h : mayS s = true) {j : Nat} {a b : Itm} (ha : s.store[j]? = some a) (hb : s.store[j + 1]? = some b) : (Op.bytesLess b.id.toList a.id.toList || b.id.toList == a.id.toList) = false := by
  unfold mayS headS mayLB at h
  simp only [Bool.and_eq_true] at h
  have hr := h.1.2.1.2
  cases ht : upB a b
  · rw [rises_false ha hb ht] at hr; cases hr
  · unfold upB at ht; rwa [Bool.not_eq_true'] at ht
structure AhS (w W9 : World) (b8 bm : Nat) (A M : Array Value) (wr : World) : Prop where
  s : Own wr b8 A 42
  m : Own wr bm M 51
  b9 : Below W9.heap.size W9 wr
  be : Below w.heap.size w wr
def AhRel (w W9 : World) (b8 bm : Nat) (A M : Array Value) (len : Nat) (i : Value) (wr : World) : Prop := ∃ k : Nat, k ≤ len ∧ i = .int .i64 k ∧ Hid (AhS w W9 b8 bm A M wr)
set_option maxRecDepth 100000 in
set_option maxHeartbeats 8000000 in
theorem askHas_calls (s : St) (fv sv ov kv : Value) (wth sid oth : Int) (w : World) (hS : SiW w s fv sv ov kv) :
    Calls Try.prog 4 #[siV s fv sv ov kv, .int .i64 wth, .int .i64 sid, .int .i64 oth] w fun e w' => e = .returned (.bool true) ∧ Below w.heap.size w w' := by
  have OA := Lib.hid (Own.new w (siL s fv sv ov kv).toArray 33)
  have BEL := Lib.hid ((Below.refl w.heap.size w).alloc (Nat.le_refl _) (.cells (siL s fv sv ov kv).toArray 33))
  have HS := Lib.hid hS
  clear hS
  have CU := fun w' => Lib.hid (up11_calls w')
  have CF := fun w' h => Lib.hid (fitsS_calls s fv sv ov kv w' h)
  have hff : fitsI s = 0 ∨ fitsI s = 1 := by
    unfold fitsI smallI knownI
    split
    · exact .inl rfl
    · split <;> split <;> simp
  have hkv : kv.oneCell' = true := by obtain ⟨_, _, e⟩ := HS.out.lk.val; rw [e]; rfl
  by_cases hz : fitsI s = 0
  · rw [hz] at CF
    clear hff hz
    go_enter Try.func4, Try.ntmps4
    go_wp2_with (first | (go_at_call 5; refine (CU _).out.mono ?_; rintro e w1 ⟨rfl, hb⟩; replace OA := Lib.hid (OA.out.later hb); replace BEL := Lib.hid (BEL.out.trans (hb.mono BEL.out.size)); clear hb) | (refine wpList_load_mid (by rfl) 33 _ (by rfl) w.heap.size 0 (by rfl) (siL s fv sv ov kv) _ (by exact OA.out.part 0 _ (by rfl)) Try.underlying33 (by rfl) (by kernel_rfl) ?_) | (go_at_call 6; refine (CF _ (HS.out.later BEL.out)).out.mono ?_; rintro e w2 ⟨rfl, hb⟩; replace OA := Lib.hid (OA.out.later hb); replace BEL := Lib.hid (BEL.out.trans (hb.mono BEL.out.size)); clear hb) | fail)
    go_ret
    exact ⟨rfl, BEL.out⟩
  have h1 : fitsI s = 1 := by rcases hff with h | h; exact absurd h hz; exact h
  have HB := Lib.hid (fits_is h1)
  rw [h1] at CF
  clear hff hz h1
  have CS := fun w' h => Lib.hid (state_calls s fv sv ov kv w' h HB.out.f (Nat.le_trans HB.out.ls (by decide)) (Nat.le_trans HB.out.lo (by decide)))
  have CM := fun fx sx ox w' h => Lib.hid (refMayS_calls s fx sx ox kv w' h HB.out)
  go_enter Try.func4, Try.ntmps4
  go_upto_region 4 with (first | (go_at_call 5; refine (CU _).out.mono ?_; rintro e w1 ⟨rfl, hb⟩; replace OA := Lib.hid (OA.out.later hb); replace BEL := Lib.hid (BEL.out.trans (hb.mono BEL.out.size)); clear hb) | (refine wpList_load_mid (by rfl) 33 _ (by rfl) w.heap.size 0 (by rfl) (siL s fv sv ov kv) _ (by exact OA.out.part 0 _ (by rfl)) Try.underlying33 (by rfl) (by kernel_rfl) ?_) | (go_at_call 6; refine (CF _ (HS.out.later BEL.out)).out.mono ?_; rintro e w2 ⟨rfl, hb⟩; replace OA := Lib.hid (OA.out.later hb); replace BEL := Lib.hid (BEL.out.trans (hb.mono BEL.out.size)); clear hb) | fail)
  go_upto_region 5 with (first
    | (refine wpList_load_mid (by rfl) 33 _ (by rfl) w.heap.size 0 (by rfl) (siL s fv sv ov kv) _ (by exact OA.out.part 0 _ (by rfl)) Try.underlying33 (by rfl) (by kernel_rfl) ?_)
    | (go_at_call 7; refine (CS _ (HS.out.later BEL.out)).out.mono ?_; rintro e w3 ⟨fx, sx, ox, rfl, hst, hb⟩; have g1 : fx.oneCell' = true := lies_one hst.lf; have g2 : sx.oneCell' = true := (by obtain ⟨_, _, _, _, e, _⟩ := hst.ls; rw [e]; rfl); have g3 : ox.oneCell' = true := (by obtain ⟨_, _, _, _, e, _⟩ := hst.lo; rw [e]; rfl); have g4 : kv.oneCell' = true := (by obtain ⟨_, _, e⟩ := hst.lk.val; rw [e]; rfl); unfold Value.oneCell' at g1 g2 g3 g4; replace BEL := Lib.hid (BEL.out.trans (hb.mono BEL.out.size)); have X := Lib.hid hst; have O8 := Lib.hid (Own.new w3 stZ.toArray 42); clear hst hb)
    | (refine wpList_store_mid (by rfl) 42 _ _ (by rfl) w3.heap.size 0 (stA s fx sx ox kv) (by rfl) (by rfl) (by exact O8.out.there (by rfl)) (by kernel_rfl) (by simp [Value.oneCell', g1, g2, g3, g4]) ?_)
    | fail)
  have HK := Lib.hid (And.intro (O8.out.sets (stA s fx sx ox kv).toList (by rfl)) (below_sets (B := w3.heap.size) (b := w3.heap.size) (Nat.le_refl _) (stA s fx sx ox kv).toList 0 ((Below.refl _ _).alloc (Nat.le_refl _) (.cells stZ.toArray 42))))
  revert HK
  generalize World.setCells _ _ _ _ = W4
  intro HK
  replace O8 := Lib.hid HK.out.1
  replace X := Lib.hid (X.out.later HK.out.2)
  replace BEL := Lib.hid (BEL.out.trans (Below.mono HK.out.2 BEL.out.size))
  clear HK OA
  generalize w3.heap.size = b8 at *
  by_cases hm : mayS s = false
  · rw [hm] at CM
    go_wp2_with (first
      | (refine wpList_load_mid (by rfl) 42 _ (by rfl) b8 0 (by rfl) (stA s fx sx ox kv).toList _ (by exact O8.out.part 0 _ (by rfl)) Try.underlying42 (by rfl) (by kernel_rfl) ?_)
      | (go_at_call 8; refine (CM fx sx ox _ X.out).out.mono ?_; rintro e w5 ⟨rfl, hb⟩; replace O8 := Lib.hid (O8.out.later hb); replace X := Lib.hid (X.out.later hb); replace BEL := Lib.hid (BEL.out.trans (hb.mono BEL.out.size)); clear hb)
      | fail)
    go_ret
    exact ⟨rfl, BEL.out⟩
  have hm2 : mayS s = true := by cases h : mayS s; exact absurd h hm; rfl
  rw [hm2] at CM
  have hsame := Lib.hid (may_same (mayS_f hm2))
  have HRISE := Lib.hid (fun (j : Nat) (a b : Itm) ha hb => rise_at hm2 (j := j) (a := a) (b := b) ha hb)
  clear hm hm2
  have COA := fun q w' h => Lib.hid (askOpen_mg s fx sx ox kv wth q w' h (Nat.le_trans HB.out.f (by decide)) (Nat.le_trans HB.out.ls (by decide)) (Nat.le_trans HB.out.kl (by decide)) (Nat.le_trans HB.out.ki (by decide)))
  go_upto_region 8 with (first
    | (refine wpList_load_mid (by rfl) 42 _ (by rfl) b8 0 (by rfl) (stA s fx sx ox kv).toList _ (by exact O8.out.part 0 _ (by rfl)) Try.underlying42 (by rfl) (by kernel_rfl) ?_)
    | (go_at_call 8; refine (CM fx sx ox _ X.out).out.mono ?_; rintro e w5 ⟨rfl, hb⟩; replace O8 := Lib.hid (O8.out.later hb); replace X := Lib.hid (X.out.later hb); replace BEL := Lib.hid (BEL.out.trans (hb.mono BEL.out.size)); clear hb)
    | fail)
  go_upto_region 9 with (first
    | (refine wpList_load_mid (by rfl) 42 _ (by rfl) b8 0 (by rfl) (stA s fx sx ox kv).toList _ (by exact O8.out.part 0 _ (by rfl)) Try.underlying42 (by rfl) (by kernel_rfl) ?_)
    | (go_at_call 9; refine (COA sid _ X.out).out.mono ?_; rintro e w11 ⟨fv1, kv1, hv1, rfl, hs, hb⟩; obtain ⟨o13, c13, rfl⟩ := lies_val hs.lf; obtain ⟨o14, c14, rfl⟩ := hs.lk.val; obtain ⟨o15, c15, h5⟩ := rowval hs.lh; subst h5; have MW1 := Lib.hid hs; have OT1 := Lib.hid ((Own.new w11 ssZ 48).alloc (.cells mgZ 51)); replace BEL := Lib.hid (BEL.out.trans (hb.mono BEL.out.size)); replace O8 := Lib.hid (O8.out.later hb); replace X := Lib.hid (X.out.later hb); clear hs hb)
    | (refine wpList_store_mid (by rfl) 48 _ _ (by rfl) w11.heap.size 0 (ssA (askX s wth sid) nilV nilV nilV) (by rfl) (by rfl) (by exact OT1.out.there (by rfl)) (by kernel_rfl) (by simp [Value.oneCell', g1, g2, g3, g4]) ?_)
    | (refine wpList_store_mid (by rfl) 51 _ _ (by rfl) (w11.heap.size + 1) 0 (mgA (askO s wth sid) (.slice o13 s.f.kids.length c13) (.slice o14 s.k.l.length c14) (.slice o15 s.store.length c15) nilV) (by rfl) (by rfl) (by exact (two_there w11 ssZ mgZ 48 51 (ssA (askX s wth sid) nilV nilV nilV).toList).there (by rfl)) (by kernel_rfl) (by simp [Value.oneCell', g1, g2, g3, g4]) ?_)
    | fail)
  have HK := Lib.hid (two_new w11 ssZ mgZ 48 51 (ssA (askX s wth sid) nilV nilV nilV).toList (mgA (askO s wth sid) (.slice o13 s.f.kids.length c13) (.slice o14 s.k.l.length c14) (.slice o15 s.store.length c15) nilV).toList (by rfl) (by rfl))
  clear OT1
  revert HK
  generalize World.setCells (World.setCells _ _ _ _) _ _ _ = W11
  intro HK
  have PA1 := Lib.hid HK.out.1
  have PB1 := Lib.hid HK.out.2.1
  replace MW1 := Lib.hid (MW1.out.later HK.out.2.2)
  replace BEL := Lib.hid (BEL.out.trans (Below.mono HK.out.2.2 BEL.out.size))
  replace O8 := Lib.hid (O8.out.later HK.out.2.2)
  replace X := Lib.hid (X.out.later HK.out.2.2)
  clear HK
  generalize w11.heap.size = bq1 at *
  obtain ⟨osx, csx, bx, qx, ex, hx⟩ := X.out.ls
  have EX := Lib.hid ex
  have HX := Lib.hid hx
  obtain ⟨ohh, chh, bh, qh, eh, hh⟩ := MW1.out.lh
  cases eh
  have HH : Hid (GAt 4 hc _ s.store o15 c15 bh qh) := Lib.hid ⟨hh.len, hh.max, hh.at0, hh.cell⟩
  have hcx := hx.len
  have hmx := hx.max
  have hch := hh.len
  have hmh := hh.max
  unfold maxLen at hmx hmh
  clear hx hh ex
  have BE9 := Lib.hid (Below.refl W11.heap.size W11)
  have z81 : b8 < W11.heap.size := O8.out.lt
  have ZBE := Lib.hid (show w.heap.size ≤ W11.heap.size from BEL.out.size)
  have z11 : bq1 + 1 < W11.heap.size := PB1.out.lt
  go_upto_region 10 with (first
    | (refine wpList_load_mid (by rfl) 42 _ (by rfl) b8 0 (by rfl) (stA s fx sx ox kv).toList _ (by exact O8.out.part 0 _ (by rfl)) Try.underlying42 (by rfl) (by kernel_rfl) ?_)
    | (go_at_call 9; refine (COA oth _ X.out).out.mono ?_; rintro e w12 ⟨fv2, kv2, hv2, rfl, hs, hb⟩; obtain ⟨o23, c23, rfl⟩ := lies_val hs.lf; obtain ⟨o24, c24, rfl⟩ := hs.lk.val; obtain ⟨o25, c25, h5⟩ := rowval hs.lh; subst h5; have MW2 := Lib.hid hs; have OT2 := Lib.hid ((Own.new w12 ssZ 48).alloc (.cells mgZ 51)); replace BEL := Lib.hid (BEL.out.trans (hb.mono BEL.out.size)); replace O8 := Lib.hid (O8.out.later hb); replace X := Lib.hid (X.out.later hb); replace PB1 := Lib.hid (PB1.out.later hb); replace BE9 := Lib.hid (BE9.out.trans (hb.mono BE9.out.size)); have zq := hb.size; clear hs hb)
    | (refine wpList_store_mid (by rfl) 48 _ _ (by rfl) w12.heap.size 0 (ssA (askX s wth oth) nilV nilV nilV) (by rfl) (by rfl) (by exact OT2.out.there (by rfl)) (by kernel_rfl) (by simp [Value.oneCell', g1, g2, g3, g4]) ?_)
    | (refine wpList_store_mid (by rfl) 51 _ _ (by rfl) (w12.heap.size + 1) 0 (mgA (askO s wth oth) (.slice o23 s.f.kids.length c23) (.slice o24 s.k.l.length c24) (.slice o25 s.store.length c25) nilV) (by rfl) (by rfl) (by exact (two_there w12 ssZ mgZ 48 51 (ssA (askX s wth oth) nilV nilV nilV).toList).there (by rfl)) (by kernel_rfl) (by simp [Value.oneCell', g1, g2, g3, g4]) ?_)
    | fail)
  have HK := Lib.hid (two_new w12 ssZ mgZ 48 51 (ssA (askX s wth oth) nilV nilV nilV).toList (mgA (askO s wth oth) (.slice o23 s.f.kids.length c23) (.slice o24 s.k.l.length c24) (.slice o25 s.store.length c25) nilV).toList (by rfl) (by rfl))
  clear OT2
  revert HK
  generalize World.setCells (World.setCells _ _ _ _) _ _ _ = W12
  intro HK
  have PA2 := Lib.hid HK.out.1
  have PB2 := Lib.hid HK.out.2.1
  have LT2 := Lib.hid HK.out.2.2
  replace BE9 := Lib.hid (BE9.out.trans (Below.mono HK.out.2.2 BE9.out.size))
  replace BEL := Lib.hid (BEL.out.trans (Below.mono HK.out.2.2 BEL.out.size))
  replace O8 := Lib.hid (O8.out.later HK.out.2.2)
  replace X := Lib.hid (X.out.later HK.out.2.2)
  replace PB1 := Lib.hid (PB1.out.later HK.out.2.2)
  clear HK
  have CG := fun a b c d e f w' h h' => Lib.hid (refMsg_same (askO s wth sid) a b c nilV d e f nilV w' h h' hsame.out (fun e he => by cases he) (Nat.zero_le _) (Nat.le_trans HB.out.ls (by decide)))
  clear CS CM COA CF CU HS hsame PA1 PA2
  try simp only [Act.put]
  rw [EX.out] at O8
  clear EX X
  have l8 := O8.out.cell
  have z8 := O8.out.lt
  have l1 := PB1.out.cell
  have z1 := PB1.out.lt
  have l2 := PB2.out.cell
  have z2 := PB2.out.lt
  have f2 := PB2.out.free
  have e1 : (askO s wth oth).sid = oth := rfl
  go_upto_region 13 with fail
  clear e1 l8 z8 l1 z1 l2 f2
  have P3 := Lib.hid (show Own (W12.setCell ⟨w12.heap.size + 1, 3, none⟩ (.int .i64 sid)) (w12.heap.size + 1) (mgA (askO s wth sid) (.slice o23 s.f.kids.length c23) (.slice o24 s.k.l.length c24) (.slice o25 s.store.length c25) nilV) 51 from PB2.out.set 3 (.int .i64 sid))
  have HSR := Lib.hid (StoreR.sets (w12.heap.size + 1) [.int .i64 sid] W12 3)
  have HSR2 : Hid (StoreR (w12.heap.size + 1) W12 (W12.setCell ⟨w12.heap.size + 1, 3, none⟩ (.int .i64 sid))) := HSR
  clear HSR
  revert P3 HSR2
  generalize W12.setCell _ _ = W13
  intro P3 HS
  replace O8 := Lib.hid (O8.out.stored HS.out (by omega))
  replace PB1 := Lib.hid (PB1.out.stored HS.out (by omega))
  replace BE9 := Lib.hid (HS.out.bel (by omega) BE9.out)
  replace BEL := Lib.hid (HS.out.bel (by have := ZBE.out; omega) BEL.out)
  replace LT2 := Lib.hid (HS.out.bel (Nat.le_succ _) LT2.out)
  have MWA := Lib.hid (MW1.out.later BE9.out)
  have MWB := Lib.hid (show MgW W13 (askO s wth sid) _ _ _ nilV from ⟨(MW2.out.later LT2.out).lf, (MW2.out.later LT2.out).lk, (MW2.out.later LT2.out).lh, GRow.nil⟩)
  clear LT2 MW2 MW1 HS PB2
  have l8 := O8.out.cell
  have z8 := O8.out.lt
  have l1 := PB1.out.cell
  have z1 := PB1.out.lt
  go_upto_region 14 with (first
    | (refine wpList_load_mid (by rfl) 51 _ (by rfl) (bq1 + 1) 0 (by rfl) (mgA (askO s wth sid) (.slice o13 s.f.kids.length c13) (.slice o14 s.k.l.length c14) (.slice o15 s.store.length c15) nilV).toList _ (by exact PB1.out.part 0 _ (by rfl)) Try.underlying51 (by rfl) (by kernel_rfl) ?_)
    | (refine wpList_load_mid (by rfl) 51 _ (by rfl) (w12.heap.size + 1) 0 (by rfl) (mgA (askO s wth sid) (.slice o23 s.f.kids.length c23) (.slice o24 s.k.l.length c24) (.slice o25 s.store.length c25) nilV).toList _ (by exact P3.out.part 0 _ (by rfl)) Try.underlying51 (by rfl) (by kernel_rfl) ?_)
    | (go_at_call 13; refine (CG _ _ _ _ _ _ _ MWA.out MWB.out).out.mono ?_; rintro e wz ⟨rfl, hb⟩; clear l8 z8 l1 z1; replace O8 := Lib.hid (O8.out.later hb); replace PB1 := Lib.hid (PB1.out.later hb); replace BEL := Lib.hid (BEL.out.trans (hb.mono BEL.out.size)); replace BE9 := Lib.hid (BE9.out.trans (hb.mono BE9.out.size)); clear hb; have l8 := O8.out.cell; have z8 := O8.out.lt; have l1 := PB1.out.cell; have z1 := PB1.out.lt)
    | fail)
  clear CG MWA MWB P3 z2 zq g1 g2 g3 g4
  generalize hlen : s.store.length = len at *
  have HLEN := Lib.hid hlen
  clear hlen
  go_wp2_with fail
  go_loopw [17] (fun i wr => AhRel w W11 b8 (bq1 + 1) (stA s fx (.slice osx len csx) ox kv) (mgA (askO s wth sid) (.slice o13 s.f.kids.length c13) (.slice o14 s.k.l.length c14) (.slice o15 len c15) nilV) len i wr) (fun i _ => len - (intOf i).toNat)
  case atStart => exact ⟨0, Nat.zero_le _, rfl, Lib.hid ⟨O8.out, PB1.out, BE9.out, BEL.out⟩⟩
  case round =>
    clear O8 PB1 BE9 BEL l8 z8 l1 z1
    obtain ⟨k, hk, rfl, AS⟩ := hrel
    have O8 := Lib.hid AS.out.s
    have PB1 := Lib.hid AS.out.m
    have BE9 := Lib.hid AS.out.b9
    have BEL := Lib.hid AS.out.be
    clear AS
    have l8 := O8.out.cell
    have z8 := O8.out.lt
    have l1 := PB1.out.cell
    have z1 := PB1.out.lt
    by_cases hlt : k < len
    · obtain ⟨q, hi⟩ : ∃ q, s.store[k]? = some q := ⟨_, List.getElem?_eq_getElem (by rw [HLEN.out]; exact hlt)⟩
      obtain ⟨rfl, hb0⟩ := HX.out.at0 (by rw [HLEN.out]; omega)
      obtain ⟨rfl, hb1⟩ := HH.out.at0 (by rw [HLEN.out]; omega)
      have HI := Lib.hid hi
      have k0 : (0 : Int) ≤ (k : Int) := by omega
      have k1 : (k : Int) < (len : Int) := by omega
      clear hi
      go_upto_region 17 with fail
      clear l8 z8 l1 z1
      refine monoN_start (T := fun _ => False) (D := fun _ => false) (by kernel_rfl) (fun wd hbd => ?_)
      replace O8 := Lib.hid (O8.out.later hbd)
      replace PB1 := Lib.hid (PB1.out.later hbd)
      replace BEL := Lib.hid (BEL.out.trans (Below.mono hbd BEL.out.size))
      replace BE9 := Lib.hid (BE9.out.trans (Below.mono hbd BE9.out.size))
      clear hbd
      refine monoN_stay (i := 0) (v := ?_) rfl (by kernel_rfl) (by kernel_rfl) (by kernel_rfl) (fun _ _ _ h => h) (Or.inl ⟨by rfl, ?_⟩) ?_
      rotate_left 1
      · (intro wL hL; go_simp; try with_reducible rfl)
      try simp only [Act.put, List.getElem_toArray, List.getElem_cons_zero, List.getElem_cons_succ, List.setIfInBounds_toArray, List.set_cons_zero, List.set_cons_succ]
      refine monoN_stay (i := 1) (v := ?_) rfl (by kernel_rfl) (by kernel_rfl) (by kernel_rfl) (fun _ _ _ h => h) (Or.inl ⟨by rfl, ?_⟩) ?_
      rotate_left 1
      · (intro wL hL; have lL := (PB1.out.but hL (fun h => h)).cell; have zL := (PB1.out.but hL (fun h => h)).lt; go_simp; try with_reducible rfl)
      try simp only [Act.put, List.getElem_toArray, List.getElem_cons_zero, List.getElem_cons_succ, List.setIfInBounds_toArray, List.set_cons_zero, List.set_cons_succ]
      refine monoN_stay (i := 2) (v := ?_) rfl (by kernel_rfl) (by kernel_rfl) (by kernel_rfl) (fun _ _ _ h => h) (Or.inl ⟨by rfl, ?_⟩) ?_
      rotate_left 1
      · (intro wL hL; go_simp; try with_reducible rfl)
      try simp only [Act.put, List.getElem_toArray, List.getElem_cons_zero, List.getElem_cons_succ, List.setIfInBounds_toArray, List.set_cons_zero, List.set_cons_succ]
      refine monoN_stay (i := 3) (v := ?_) rfl (by kernel_rfl) (by kernel_rfl) (by kernel_rfl) (fun _ _ _ h => h) (Or.inl ⟨by rfl, ?_⟩) ?_
      rotate_left 1
      · (intro wL hL; go_simp; try with_reducible rfl)
      try simp only [Act.put, List.getElem_toArray, List.getElem_cons_zero, List.getElem_cons_succ, List.setIfInBounds_toArray, List.set_cons_zero, List.set_cons_succ]
      refine monoN_stay (i := 4) (v := ?_) rfl (by kernel_rfl) (by kernel_rfl) (by kernel_rfl) (fun _ _ _ h => h) (Or.inl ⟨by rfl, ?_⟩) ?_
      rotate_left 1
      · (intro wL hL; go_simp; try with_reducible rfl)
      try simp only [Act.put, List.getElem_toArray, List.getElem_cons_zero, List.getElem_cons_succ, List.setIfInBounds_toArray, List.set_cons_zero, List.set_cons_succ]
      refine monoN_stay (i := 5) (v := ?_) rfl (by kernel_rfl) (by kernel_rfl) (by kernel_rfl) (fun _ _ _ h => h) (Or.inl ⟨by rfl, ?_⟩) ?_
      rotate_left 1
      · (intro wL hL; have cL := HH.out.range (k := k) BE9.out hL (fun _ _ h => h) HI.out; have c0 := cL 0 _ rfl; have c1 := cL 1 _ rfl; have c2 := cL 2 _ rfl; have c3 := cL 3 _ rfl; have zi : bh < wL.heap.size := Nat.lt_of_lt_of_le (Nat.lt_of_lt_of_le hb1 BE9.out.size) hL.size; simp only [Nat.add_zero] at c0 c1 c2 c3; go_simp; try with_reducible rfl)
      try simp only [Act.put, List.getElem_toArray, List.getElem_cons_zero, List.getElem_cons_succ, List.setIfInBounds_toArray, List.set_cons_zero, List.set_cons_succ]
      refine monoN_stay (i := 6) (v := ?_) rfl (by kernel_rfl) (by kernel_rfl) (by kernel_rfl) (fun _ _ _ h => h) (Or.inl ⟨by rfl, ?_⟩) ?_
      rotate_left 1
      · (intro wL hL; go_simp; try with_reducible rfl)
      try simp only [Act.put, List.getElem_toArray, List.getElem_cons_zero, List.getElem_cons_succ, List.setIfInBounds_toArray, List.set_cons_zero, List.set_cons_succ]
      refine monoN_stay (i := 7) (v := ?_) rfl (by kernel_rfl) (by kernel_rfl) (by kernel_rfl) (fun _ _ _ h => h) (Or.inl ⟨by rfl, ?_⟩) ?_
      rotate_left 1
      · (intro wL hL; have lL := (O8.out.but hL (fun h => h)).cell; have zL := (O8.out.but hL (fun h => h)).lt; go_simp; try with_reducible rfl)
      try simp only [Act.put, List.getElem_toArray, List.getElem_cons_zero, List.getElem_cons_succ, List.setIfInBounds_toArray, List.set_cons_zero, List.set_cons_succ]
      refine monoN_stay (i := 8) (v := ?_) rfl (by kernel_rfl) (by kernel_rfl) (by kernel_rfl) (fun _ _ _ h => h) (Or.inl ⟨by rfl, ?_⟩) ?_
      rotate_left 1
      · (intro wL hL; go_simp; try with_reducible rfl)
      try simp only [Act.put, List.getElem_toArray, List.getElem_cons_zero, List.getElem_cons_succ, List.setIfInBounds_toArray, List.set_cons_zero, List.set_cons_succ]
      refine monoN_stay (i := 9) (v := ?_) rfl (by kernel_rfl) (by kernel_rfl) (by kernel_rfl) (fun _ _ _ h => h) (Or.inl ⟨by rfl, ?_⟩) ?_
      rotate_left 1
      · (intro wL hL; go_simp; try with_reducible rfl)
      try simp only [Act.put, List.getElem_toArray, List.getElem_cons_zero, List.getElem_cons_succ, List.setIfInBounds_toArray, List.set_cons_zero, List.set_cons_succ]
      refine monoN_stay (i := 10) (v := ?_) rfl (by kernel_rfl) (by kernel_rfl) (by kernel_rfl) (fun _ _ _ h => h) (Or.inl ⟨by rfl, ?_⟩) ?_
      rotate_left 1
      · (intro wL hL; go_simp; try with_reducible rfl)
      try simp only [Act.put, List.getElem_toArray, List.getElem_cons_zero, List.getElem_cons_succ, List.setIfInBounds_toArray, List.set_cons_zero, List.set_cons_succ]
      refine monoN_stay (i := 11) (v := ?_) rfl (by kernel_rfl) (by kernel_rfl) (by kernel_rfl) (fun _ _ _ h => h) (Or.inl ⟨by rfl, ?_⟩) ?_
      rotate_left 1
      · (intro wL hL; obtain ⟨c0, c1, c2, c3, _, _, _, _⟩ := rowCells (k := k) HX.out BE9.out hL (fun _ _ h => h) HI.out; have zi : bx < wL.heap.size := Nat.lt_of_lt_of_le (Nat.lt_of_lt_of_le hb0 BE9.out.size) hL.size; go_simp; try with_reducible rfl)
      try simp only [Act.put, List.getElem_toArray, List.getElem_cons_zero, List.getElem_cons_succ, List.setIfInBounds_toArray, List.set_cons_zero, List.set_cons_succ]
      refine monoN_stay (i := 12) (v := ?_) rfl (by kernel_rfl) (by kernel_rfl) (by kernel_rfl) (fun _ _ _ h => h) (Or.inl ⟨by rfl, ?_⟩) ?_
      rotate_left 1
      · (intro wL hL; go_simp; try with_reducible rfl)
      try simp only [Act.put, List.getElem_toArray, List.getElem_cons_zero, List.getElem_cons_succ, List.setIfInBounds_toArray, List.set_cons_zero, List.set_cons_succ]
      refine monoN_stay (i := 13) (v := ?_) rfl (by kernel_rfl) (by kernel_rfl) (by kernel_rfl) (fun _ _ _ h => h) (Or.inl ⟨by rfl, ?_⟩) ?_
      rotate_left 1
      · (intro wL hL; go_simp; try with_reducible rfl)
      try simp only [Act.put, List.getElem_toArray, List.getElem_cons_zero, List.getElem_cons_succ, List.setIfInBounds_toArray, List.set_cons_zero, List.set_cons_succ]
      refine monoN_stay (i := 14) (v := ?_) rfl (by kernel_rfl) (by kernel_rfl) (by kernel_rfl) (fun _ _ _ h => h) (Or.inl ⟨by rfl, ?_⟩) ?_
      rotate_left 1
      · (intro wL hL; go_simp; try with_reducible rfl)
      try simp only [Act.put, List.getElem_toArray, List.getElem_cons_zero, List.getElem_cons_succ, List.setIfInBounds_toArray, List.set_cons_zero, List.set_cons_succ]
      refine monoN_stay (i := 15) (v := ?_) rfl (by kernel_rfl) (by kernel_rfl) (by kernel_rfl) (fun _ _ _ h => h) (Or.inl ⟨by rfl, ?_⟩) ?_
      rotate_left 1
      · (intro wL hL; have lL := (PB1.out.but hL (fun h => h)).cell; have zL := (PB1.out.but hL (fun h => h)).lt; go_simp; try with_reducible rfl)
      try simp only [Act.put, List.getElem_toArray, List.getElem_cons_zero, List.getElem_cons_succ, List.setIfInBounds_toArray, List.set_cons_zero, List.set_cons_succ]
      refine monoN_stay (i := 16) (v := ?_) rfl (by kernel_rfl) (by kernel_rfl) (by kernel_rfl) (fun _ _ _ h => h) (Or.inl ⟨by rfl, ?_⟩) ?_
      rotate_left 1
      · (intro wL hL; go_simp; try with_reducible rfl)
      try simp only [Act.put, List.getElem_toArray, List.getElem_cons_zero, List.getElem_cons_succ, List.setIfInBounds_toArray, List.set_cons_zero, List.set_cons_succ]
      refine monoN_stay (i := 17) (v := ?_) rfl (by kernel_rfl) (by kernel_rfl) (by kernel_rfl) (fun _ _ _ h => h) (Or.inl ⟨by rfl, ?_⟩) ?_
      rotate_left 1
      · (intro wL hL; go_simp; try with_reducible rfl)
      try simp only [Act.put, List.getElem_toArray, List.getElem_cons_zero, List.getElem_cons_succ, List.setIfInBounds_toArray, List.set_cons_zero, List.set_cons_succ]
      refine monoN_stay (i := 18) (v := ?_) rfl (by kernel_rfl) (by kernel_rfl) (by kernel_rfl) (fun _ _ _ h => h) (Or.inl ⟨by rfl, ?_⟩) ?_
      rotate_left 1
      · (intro wL hL; go_simp; try with_reducible rfl)
      try simp only [Act.put, List.getElem_toArray, List.getElem_cons_zero, List.getElem_cons_succ, List.setIfInBounds_toArray, List.set_cons_zero, List.set_cons_succ]
      refine monoN_stay (i := 19) (v := ?_) rfl (by kernel_rfl) (by kernel_rfl) (by kernel_rfl) (fun _ _ _ h => h) (Or.inl ⟨by rfl, ?_⟩) ?_
      rotate_left 1
      · (intro wL hL; have cL := HH.out.range (k := k) BE9.out hL (fun _ _ h => h) HI.out; have c0 := cL 0 _ rfl; have c1 := cL 1 _ rfl; have c2 := cL 2 _ rfl; have c3 := cL 3 _ rfl; have zi : bh < wL.heap.size := Nat.lt_of_lt_of_le (Nat.lt_of_lt_of_le hb1 BE9.out.size) hL.size; simp only [Nat.add_zero] at c0 c1 c2 c3; go_simp; try with_reducible rfl)
      try simp only [Act.put, List.getElem_toArray, List.getElem_cons_zero, List.getElem_cons_succ, List.setIfInBounds_toArray, List.set_cons_zero, List.set_cons_succ]
      refine monoN_stay (i := 20) (v := ?_) rfl (by kernel_rfl) (by kernel_rfl) (by kernel_rfl) (fun _ _ _ h => h) (Or.inl ⟨by rfl, ?_⟩) ?_
      rotate_left 1
      · (intro wL hL; go_simp; try with_reducible rfl)
      try simp only [Act.put, List.getElem_toArray, List.getElem_cons_zero, List.getElem_cons_succ, List.setIfInBounds_toArray, List.set_cons_zero, List.set_cons_succ]
      refine monoN_stay (i := 21) (v := ?_) rfl (by kernel_rfl) (by kernel_rfl) (by kernel_rfl) (fun _ _ _ h => h) (Or.inl ⟨by rfl, ?_⟩) ?_
      rotate_left 1
      · (intro wL hL; have lL := (O8.out.but hL (fun h => h)).cell; have zL := (O8.out.but hL (fun h => h)).lt; go_simp; try with_reducible rfl)
      try simp only [Act.put, List.getElem_toArray, List.getElem_cons_zero, List.getElem_cons_succ, List.setIfInBounds_toArray, List.set_cons_zero, List.set_cons_succ]
      refine monoN_stay (i := 22) (v := ?_) rfl (by kernel_rfl) (by kernel_rfl) (by kernel_rfl) (fun _ _ _ h => h) (Or.inl ⟨by rfl, ?_⟩) ?_
      rotate_left 1
      · (intro wL hL; go_simp; try with_reducible rfl)
      try simp only [Act.put, List.getElem_toArray, List.getElem_cons_zero, List.getElem_cons_succ, List.setIfInBounds_toArray, List.set_cons_zero, List.set_cons_succ]
      refine monoN_stay (i := 23) (v := ?_) rfl (by kernel_rfl) (by kernel_rfl) (by kernel_rfl) (fun _ _ _ h => h) (Or.inl ⟨by rfl, ?_⟩) ?_
      rotate_left 1
      · (intro wL hL; go_simp; try with_reducible rfl)
      try simp only [Act.put, List.getElem_toArray, List.getElem_cons_zero, List.getElem_cons_succ, List.setIfInBounds_toArray, List.set_cons_zero, List.set_cons_succ]
      refine monoN_stay (i := 24) (v := ?_) rfl (by kernel_rfl) (by kernel_rfl) (by kernel_rfl) (fun _ _ _ h => h) (Or.inl ⟨by rfl, ?_⟩) ?_
      rotate_left 1
      · (intro wL hL; go_simp; try with_reducible rfl)
      try simp only [Act.put, List.getElem_toArray, List.getElem_cons_zero, List.getElem_cons_succ, List.setIfInBounds_toArray, List.set_cons_zero, List.set_cons_succ]
      refine monoN_stay (i := 25) (v := ?_) rfl (by kernel_rfl) (by kernel_rfl) (by kernel_rfl) (fun _ _ _ h => h) (Or.inl ⟨by rfl, ?_⟩) ?_
      rotate_left 1
      · (intro wL hL; obtain ⟨c0, c1, c2, c3, _, _, _, _⟩ := rowCells (k := k) HX.out BE9.out hL (fun _ _ h => h) HI.out; have zi : bx < wL.heap.size := Nat.lt_of_lt_of_le (Nat.lt_of_lt_of_le hb0 BE9.out.size) hL.size; go_simp; try with_reducible rfl)
      try simp only [Act.put, List.getElem_toArray, List.getElem_cons_zero, List.getElem_cons_succ, List.setIfInBounds_toArray, List.set_cons_zero, List.set_cons_succ]
      refine monoN_stay (i := 26) (v := ?_) rfl (by kernel_rfl) (by kernel_rfl) (by kernel_rfl) (fun _ _ _ h => h) (Or.inl ⟨by rfl, ?_⟩) ?_
      rotate_left 1
      · (intro wL hL; go_simp; try with_reducible rfl)
      try simp only [Act.put, List.getElem_toArray, List.getElem_cons_zero, List.getElem_cons_succ, List.setIfInBounds_toArray, List.set_cons_zero, List.set_cons_succ]
      refine monoN_stay (i := 27) (v := ?_) rfl (by kernel_rfl) (by kernel_rfl) (by kernel_rfl) (fun _ _ _ h => h) (Or.inl ⟨by rfl, ?_⟩) ?_
      rotate_left 1
      · (intro wL hL; go_simp; try with_reducible rfl)
      try simp only [Act.put, List.getElem_toArray, List.getElem_cons_zero, List.getElem_cons_succ, List.setIfInBounds_toArray, List.set_cons_zero, List.set_cons_succ]
      refine monoN_stay (i := 28) (v := ?_) rfl (by kernel_rfl) (by kernel_rfl) (by kernel_rfl) (fun _ _ _ h => h) (Or.inl ⟨by rfl, ?_⟩) ?_
      rotate_left 1
      · (intro wL hL; go_simp; try with_reducible rfl)
      try simp only [Act.put, List.getElem_toArray, List.getElem_cons_zero, List.getElem_cons_succ, List.setIfInBounds_toArray, List.set_cons_zero, List.set_cons_succ]
      refine monoN_stay (i := 29) (v := ?_) rfl (by kernel_rfl) (by kernel_rfl) (by kernel_rfl) (fun _ _ _ h => h) (Or.inl ⟨by rfl, ?_⟩) ?_
      rotate_left 1
      · (intro wL hL; go_simp; try with_reducible rfl)
      try simp only [Act.put, List.getElem_toArray, List.getElem_cons_zero, List.getElem_cons_succ, List.setIfInBounds_toArray, List.set_cons_zero, List.set_cons_succ]
      refine monoN_stay (i := 30) (v := ?_) rfl (by kernel_rfl) (by kernel_rfl) (by kernel_rfl) (fun _ _ _ h => h) (Or.inl ⟨by rfl, ?_⟩) ?_
      rotate_left 1
      · (intro wL hL; have lL := (PB1.out.but hL (fun h => h)).cell; have zL := (PB1.out.but hL (fun h => h)).lt; go_simp; try with_reducible rfl)
      try simp only [Act.put, List.getElem_toArray, List.getElem_cons_zero, List.getElem_cons_succ, List.setIfInBounds_toArray, List.set_cons_zero, List.set_cons_succ]
      refine monoN_stay (i := 31) (v := ?_) rfl (by kernel_rfl) (by kernel_rfl) (by kernel_rfl) (fun _ _ _ h => h) (Or.inl ⟨by rfl, ?_⟩) ?_
      rotate_left 1
      · (intro wL hL; go_simp; try with_reducible rfl)
      try simp only [Act.put, List.getElem_toArray, List.getElem_cons_zero, List.getElem_cons_succ, List.setIfInBounds_toArray, List.set_cons_zero, List.set_cons_succ]
      refine monoN_stay (i := 32) (v := ?_) rfl (by kernel_rfl) (by kernel_rfl) (by kernel_rfl) (fun _ _ _ h => h) (Or.inl ⟨by rfl, ?_⟩) ?_
      rotate_left 1
      · (intro wL hL; go_simp; try with_reducible rfl)
      try simp only [Act.put, List.getElem_toArray, List.getElem_cons_zero, List.getElem_cons_succ, List.setIfInBounds_toArray, List.set_cons_zero, List.set_cons_succ]
      refine monoN_stay (i := 33) (v := ?_) rfl (by kernel_rfl) (by kernel_rfl) (by kernel_rfl) (fun _ _ _ h => h) (Or.inl ⟨by rfl, ?_⟩) ?_
      rotate_left 1
      · (intro wL hL; go_simp; try with_reducible rfl)
      try simp only [Act.put, List.getElem_toArray, List.getElem_cons_zero, List.getElem_cons_succ, List.setIfInBounds_toArray, List.set_cons_zero, List.set_cons_succ]
      refine monoN_stay (i := 34) (v := ?_) rfl (by kernel_rfl) (by kernel_rfl) (by kernel_rfl) (fun _ _ _ h => h) (Or.inl ⟨by rfl, ?_⟩) ?_
      rotate_left 1
      · (intro wL hL; have cL := HH.out.range (k := k) BE9.out hL (fun _ _ h => h) HI.out; have c0 := cL 0 _ rfl; have c1 := cL 1 _ rfl; have c2 := cL 2 _ rfl; have c3 := cL 3 _ rfl; have zi : bh < wL.heap.size := Nat.lt_of_lt_of_le (Nat.lt_of_lt_of_le hb1 BE9.out.size) hL.size; simp only [Nat.add_zero] at c0 c1 c2 c3; go_simp; try with_reducible rfl)
      try simp only [Act.put, List.getElem_toArray, List.getElem_cons_zero, List.getElem_cons_succ, List.setIfInBounds_toArray, List.set_cons_zero, List.set_cons_succ]
      refine monoN_stay (i := 35) (v := ?_) rfl (by kernel_rfl) (by kernel_rfl) (by kernel_rfl) (fun _ _ _ h => h) (Or.inl ⟨by rfl, ?_⟩) ?_
      rotate_left 1
      · (intro wL hL; go_simp; try with_reducible rfl)
      try simp only [Act.put, List.getElem_toArray, List.getElem_cons_zero, List.getElem_cons_succ, List.setIfInBounds_toArray, List.set_cons_zero, List.set_cons_succ]
      refine monoN_stay (i := 36) (v := ?_) rfl (by kernel_rfl) (by kernel_rfl) (by kernel_rfl) (fun _ _ _ h => h) (Or.inl ⟨by rfl, ?_⟩) ?_
      rotate_left 1
      · (intro wL hL; have lL := (O8.out.but hL (fun h => h)).cell; have zL := (O8.out.but hL (fun h => h)).lt; go_simp; try with_reducible rfl)
      try simp only [Act.put, List.getElem_toArray, List.getElem_cons_zero, List.getElem_cons_succ, List.setIfInBounds_toArray, List.set_cons_zero, List.set_cons_succ]
      refine monoN_stay (i := 37) (v := ?_) rfl (by kernel_rfl) (by kernel_rfl) (by kernel_rfl) (fun _ _ _ h => h) (Or.inl ⟨by rfl, ?_⟩) ?_
      rotate_left 1
      · (intro wL hL; go_simp; try with_reducible rfl)
      try simp only [Act.put, List.getElem_toArray, List.getElem_cons_zero, List.getElem_cons_succ, List.setIfInBounds_toArray, List.set_cons_zero, List.set_cons_succ]
      refine monoN_stay (i := 38) (v := ?_) rfl (by kernel_rfl) (by kernel_rfl) (by kernel_rfl) (fun _ _ _ h => h) (Or.inl ⟨by rfl, ?_⟩) ?_
      rotate_left 1
      · (intro wL hL; go_simp; try with_reducible rfl)
      try simp only [Act.put, List.getElem_toArray, List.getElem_cons_zero, List.getElem_cons_succ, List.setIfInBounds_toArray, List.set_cons_zero, List.set_cons_succ]
      refine monoN_stay (i := 39) (v := ?_) rfl (by kernel_rfl) (by kernel_rfl) (by kernel_rfl) (fun _ _ _ h => h) (Or.inl ⟨by rfl, ?_⟩) ?_
      rotate_left 1
      · (intro wL hL; go_simp; try with_reducible rfl)
      try simp only [Act.put, List.getElem_toArray, List.getElem_cons_zero, List.getElem_cons_succ, List.setIfInBounds_toArray, List.set_cons_zero, List.set_cons_succ]
      refine monoN_stay (i := 40) (v := ?_) rfl (by kernel_rfl) (by kernel_rfl) (by kernel_rfl) (fun _ _ _ h => h) (Or.inl ⟨by rfl, ?_⟩) ?_
      rotate_left 1
      · (intro wL hL; obtain ⟨c0, c1, c2, c3, _, _, _, _⟩ := rowCells (k := k) HX.out BE9.out hL (fun _ _ h => h) HI.out; have zi : bx < wL.heap.size := Nat.lt_of_lt_of_le (Nat.lt_of_lt_of_le hb0 BE9.out.size) hL.size; go_simp; try with_reducible rfl)
      try simp only [Act.put, List.getElem_toArray, List.getElem_cons_zero, List.getElem_cons_succ, List.setIfInBounds_toArray, List.set_cons_zero, List.set_cons_succ]
      refine monoN_stay (i := 41) (v := ?_) rfl (by kernel_rfl) (by kernel_rfl) (by kernel_rfl) (fun _ _ _ h => h) (Or.inl ⟨by rfl, ?_⟩) ?_
      rotate_left 1
      · (intro wL hL; go_simp; try with_reducible rfl)
      try simp only [Act.put, List.getElem_toArray, List.getElem_cons_zero, List.getElem_cons_succ, List.setIfInBounds_toArray, List.set_cons_zero, List.set_cons_succ]
      refine monoN_stay (i := 42) (v := ?_) rfl (by kernel_rfl) (by kernel_rfl) (by kernel_rfl) (fun _ _ _ h => h) (Or.inl ⟨by rfl, ?_⟩) ?_
      rotate_left 1
      · (intro wL hL; go_simp; try with_reducible rfl)
      try simp only [Act.put, List.getElem_toArray, List.getElem_cons_zero, List.getElem_cons_succ, List.setIfInBounds_toArray, List.set_cons_zero, List.set_cons_succ]
      refine monoN_done (by kernel_rfl) ?_ _
      have l8 := O8.out.cell
      have z8 := O8.out.lt
      have l1 := PB1.out.cell
      have z1 := PB1.out.lt
      go_upto_region 19 with fail
      clear l8 z8 l1 z1
      by_cases hk0 : k = 0
      · subst hk0
        refine monoN_start (T := fun _ => False) (D := fun _ => false) (by kernel_rfl) (fun wd hbd => ?_)
        replace O8 := Lib.hid (O8.out.later hbd)
        replace PB1 := Lib.hid (PB1.out.later hbd)
        replace BEL := Lib.hid (BEL.out.trans (Below.mono hbd BEL.out.size))
        replace BE9 := Lib.hid (BE9.out.trans (Below.mono hbd BE9.out.size))
        clear hbd
        refine monoN_stay (i := 0) (v := ?_) rfl (by kernel_rfl) (by kernel_rfl) (by kernel_rfl) (fun _ _ _ h => h) (Or.inl ⟨by rfl, ?_⟩) ?_
        rotate_left 1
        · (intro wL hL; go_simp; try with_reducible rfl)
        try simp only [Act.put, List.getElem_toArray, List.getElem_cons_zero, List.getElem_cons_succ, List.setIfInBounds_toArray, List.set_cons_zero, List.set_cons_succ]
        refine monoN_stay (i := 1) (v := ?_) rfl (by kernel_rfl) (by kernel_rfl) (by kernel_rfl) (fun _ _ _ h => h) (Or.inl ⟨by rfl, ?_⟩) ?_
        rotate_left 1
        · (intro wL hL; go_simp; try with_reducible rfl)
        try simp only [Act.put, List.getElem_toArray, List.getElem_cons_zero, List.getElem_cons_succ, List.setIfInBounds_toArray, List.set_cons_zero, List.set_cons_succ]
        refine monoN_stay (i := 2) (v := ?_) rfl (by kernel_rfl) (by kernel_rfl) (by kernel_rfl) (fun _ _ _ h => h) (Or.inl ⟨by rfl, ?_⟩) ?_
        rotate_left 1
        · (intro wL hL; go_simp; try with_reducible rfl)
        try simp only [Act.put, List.getElem_toArray, List.getElem_cons_zero, List.getElem_cons_succ, List.setIfInBounds_toArray, List.set_cons_zero, List.set_cons_succ]
        refine monoN_stay (i := 3) (v := undef) rfl (by kernel_rfl) (by kernel_rfl) (by kernel_rfl) (fun _ _ _ h => h) (Or.inr ⟨by rfl, rfl⟩) ?_
        try simp only [Act.put, List.getElem_toArray, List.getElem_cons_zero, List.getElem_cons_succ, List.setIfInBounds_toArray, List.set_cons_zero, List.set_cons_succ]
        refine monoN_stay (i := 4) (v := undef) rfl (by kernel_rfl) (by kernel_rfl) (by kernel_rfl) (fun _ _ _ h => h) (Or.inr ⟨by rfl, rfl⟩) ?_
        try simp only [Act.put, List.getElem_toArray, List.getElem_cons_zero, List.getElem_cons_succ, List.setIfInBounds_toArray, List.set_cons_zero, List.set_cons_succ]
        refine monoN_stay (i := 5) (v := undef) rfl (by kernel_rfl) (by kernel_rfl) (by kernel_rfl) (fun _ _ _ h => h) (Or.inr ⟨by rfl, rfl⟩) ?_
        try simp only [Act.put, List.getElem_toArray, List.getElem_cons_zero, List.getElem_cons_succ, List.setIfInBounds_toArray, List.set_cons_zero, List.set_cons_succ]
        refine monoN_stay (i := 6) (v := undef) rfl (by kernel_rfl) (by kernel_rfl) (by kernel_rfl) (fun _ _ _ h => h) (Or.inr ⟨by rfl, rfl⟩) ?_
        try simp only [Act.put, List.getElem_toArray, List.getElem_cons_zero, List.getElem_cons_succ, List.setIfInBounds_toArray, List.set_cons_zero, List.set_cons_succ]
        refine monoN_stay (i := 7) (v := undef) rfl (by kernel_rfl) (by kernel_rfl) (by kernel_rfl) (fun _ _ _ h => h) (Or.inr ⟨by rfl, rfl⟩) ?_
        try simp only [Act.put, List.getElem_toArray, List.getElem_cons_zero, List.getElem_cons_succ, List.setIfInBounds_toArray, List.set_cons_zero, List.set_cons_succ]
        refine monoN_stay (i := 8) (v := undef) rfl (by kernel_rfl) (by kernel_rfl) (by kernel_rfl) (fun _ _ _ h => h) (Or.inr ⟨by rfl, rfl⟩) ?_
        try simp only [Act.put, List.getElem_toArray, List.getElem_cons_zero, List.getElem_cons_succ, List.setIfInBounds_toArray, List.set_cons_zero, List.set_cons_succ]
        refine monoN_stay (i := 9) (v := undef) rfl (by kernel_rfl) (by kernel_rfl) (by kernel_rfl) (fun _ _ _ h => h) (Or.inr ⟨by rfl, rfl⟩) ?_
        try simp only [Act.put, List.getElem_toArray, List.getElem_cons_zero, List.getElem_cons_succ, List.setIfInBounds_toArray, List.set_cons_zero, List.set_cons_succ]
        refine monoN_stay (i := 10) (v := undef) rfl (by kernel_rfl) (by kernel_rfl) (by kernel_rfl) (fun _ _ _ h => h) (Or.inr ⟨by rfl, rfl⟩) ?_
        try simp only [Act.put, List.getElem_toArray, List.getElem_cons_zero, List.getElem_cons_succ, List.setIfInBounds_toArray, List.set_cons_zero, List.set_cons_succ]
        refine monoN_stay (i := 11) (v := undef) rfl (by kernel_rfl) (by kernel_rfl) (by kernel_rfl) (fun _ _ _ h => h) (Or.inr ⟨by rfl, rfl⟩) ?_
        try simp only [Act.put, List.getElem_toArray, List.getElem_cons_zero, List.getElem_cons_succ, List.setIfInBounds_toArray, List.set_cons_zero, List.set_cons_succ]
        refine monoN_stay (i := 12) (v := undef) rfl (by kernel_rfl) (by kernel_rfl) (by kernel_rfl) (fun _ _ _ h => h) (Or.inr ⟨by rfl, rfl⟩) ?_
        try simp only [Act.put, List.getElem_toArray, List.getElem_cons_zero, List.getElem_cons_succ, List.setIfInBounds_toArray, List.set_cons_zero, List.set_cons_succ]
        refine monoN_stay (i := 13) (v := undef) rfl (by kernel_rfl) (by kernel_rfl) (by kernel_rfl) (fun _ _ _ h => h) (Or.inr ⟨by rfl, rfl⟩) ?_
        try simp only [Act.put, List.getElem_toArray, List.getElem_cons_zero, List.getElem_cons_succ, List.setIfInBounds_toArray, List.set_cons_zero, List.set_cons_succ]
        refine monoN_stay (i := 14) (v := undef) rfl (by kernel_rfl) (by kernel_rfl) (by kernel_rfl) (fun _ _ _ h => h) (Or.inr ⟨by rfl, rfl⟩) ?_
        try simp only [Act.put, List.getElem_toArray, List.getElem_cons_zero, List.getElem_cons_succ, List.setIfInBounds_toArray, List.set_cons_zero, List.set_cons_succ]
        refine monoN_stay (i := 15) (v := undef) rfl (by kernel_rfl) (by kernel_rfl) (by kernel_rfl) (fun _ _ _ h => h) (Or.inr ⟨by rfl, rfl⟩) ?_
        try simp only [Act.put, List.getElem_toArray, List.getElem_cons_zero, List.getElem_cons_succ, List.setIfInBounds_toArray, List.set_cons_zero, List.set_cons_succ]
        refine monoN_stay (i := 16) (v := undef) rfl (by kernel_rfl) (by kernel_rfl) (by kernel_rfl) (fun _ _ _ h => h) (Or.inr ⟨by rfl, rfl⟩) ?_
        try simp only [Act.put, List.getElem_toArray, List.getElem_cons_zero, List.getElem_cons_succ, List.setIfInBounds_toArray, List.set_cons_zero, List.set_cons_succ]
        refine monoN_stay (i := 17) (v := ?_) rfl (by kernel_rfl) (by kernel_rfl) (by kernel_rfl) (fun _ _ _ h => h) (Or.inl ⟨by rfl, ?_⟩) ?_
        rotate_left 1
        · (intro wL hL; go_simp; try with_reducible rfl)
        try simp only [Act.put, List.getElem_toArray, List.getElem_cons_zero, List.getElem_cons_succ, List.setIfInBounds_toArray, List.set_cons_zero, List.set_cons_succ]
        refine monoN_done (by kernel_rfl) ?_ _
        have l8 := O8.out.cell
        have z8 := O8.out.lt
        have l1 := PB1.out.cell
        have z1 := PB1.out.lt
        go_wp2_with fail
        go_roundw
        case rel => exact ⟨1, by omega, by go_num, Lib.hid ⟨O8.out, PB1.out, BE9.out, BEL.out⟩⟩
        case measure => simp [intOf]; omega
      · obtain ⟨j, rfl⟩ : ∃ j, k = j + 1 := ⟨k - 1, by omega⟩
        obtain ⟨q2, hj⟩ : ∃ q2, s.store[j]? = some q2 := ⟨_, List.getElem?_eq_getElem (by rw [HLEN.out]; omega)⟩
        have HJ := Lib.hid hj
        have hg := HRISE.out j q2 q hj HI.out
        clear hj hk0
        have k2 : (0 : Int) ≤ (j : Int) + 1 := by omega
        have k3 : (j : Int) + 1 < (len : Int) := by omega
        have k4 : (j : Int) + 1 - 1 = (j : Int) := by omega
        have k5 : ((j : Int) + 1).toNat = j + 1 := by omega
        have k6 : (0 : Int) ≤ (j : Int) := by omega
        have k7 : (j : Int) < (len : Int) := by omega
        have k8 : (0 : Int) < (j : Int) + 1 := by omega
        refine monoN_start (T := fun _ => False) (D := fun _ => false) (by kernel_rfl) (fun wd hbd => ?_)
        replace O8 := Lib.hid (O8.out.later hbd)
        replace PB1 := Lib.hid (PB1.out.later hbd)
        replace BEL := Lib.hid (BEL.out.trans (Below.mono hbd BEL.out.size))
        replace BE9 := Lib.hid (BE9.out.trans (Below.mono hbd BE9.out.size))
        clear hbd
        refine monoN_stay (i := 0) (v := ?_) rfl (by kernel_rfl) (by kernel_rfl) (by kernel_rfl) (fun _ _ _ h => h) (Or.inl ⟨by rfl, ?_⟩) ?_
        rotate_left 1
        · (intro wL hL; go_simp; try with_reducible rfl)
        try simp only [Act.put, List.getElem_toArray, List.getElem_cons_zero, List.getElem_cons_succ, List.setIfInBounds_toArray, List.set_cons_zero, List.set_cons_succ]
        refine monoN_stay (i := 1) (v := ?_) rfl (by kernel_rfl) (by kernel_rfl) (by kernel_rfl) (fun _ _ _ h => h) (Or.inl ⟨by rfl, ?_⟩) ?_
        rotate_left 1
        · (intro wL hL; go_simp; try with_reducible rfl)
        try simp only [Act.put, List.getElem_toArray, List.getElem_cons_zero, List.getElem_cons_succ, List.setIfInBounds_toArray, List.set_cons_zero, List.set_cons_succ]
        refine monoN_stay (i := 2) (v := ?_) rfl (by kernel_rfl) (by kernel_rfl) (by kernel_rfl) (fun _ _ _ h => h) (Or.inl ⟨by rfl, ?_⟩) ?_
        rotate_left 1
        · (intro wL hL; go_simp; try with_reducible rfl)
        try simp only [Act.put, List.getElem_toArray, List.getElem_cons_zero, List.getElem_cons_succ, List.setIfInBounds_toArray, List.set_cons_zero, List.set_cons_succ]
        refine monoN_stay (i := 3) (v := ?_) rfl (by kernel_rfl) (by kernel_rfl) (by kernel_rfl) (fun _ _ _ h => h) (Or.inl ⟨by rfl, ?_⟩) ?_
        rotate_left 1
        · (intro wL hL; go_simp; try with_reducible rfl)
        try simp only [Act.put, List.getElem_toArray, List.getElem_cons_zero, List.getElem_cons_succ, List.setIfInBounds_toArray, List.set_cons_zero, List.set_cons_succ]
        refine monoN_stay (i := 4) (v := ?_) rfl (by kernel_rfl) (by kernel_rfl) (by kernel_rfl) (fun _ _ _ h => h) (Or.inl ⟨by rfl, ?_⟩) ?_
        rotate_left 1
        · (intro wL hL; have lL := (PB1.out.but hL (fun h => h)).cell; have zL := (PB1.out.but hL (fun h => h)).lt; go_simp; try with_reducible rfl)
        try simp only [Act.put, List.getElem_toArray, List.getElem_cons_zero, List.getElem_cons_succ, List.setIfInBounds_toArray, List.set_cons_zero, List.set_cons_succ]
        refine monoN_stay (i := 5) (v := ?_) rfl (by kernel_rfl) (by kernel_rfl) (by kernel_rfl) (fun _ _ _ h => h) (Or.inl ⟨by rfl, ?_⟩) ?_
        rotate_left 1
        · (intro wL hL; go_simp; try with_reducible rfl)
        try simp only [Act.put, List.getElem_toArray, List.getElem_cons_zero, List.getElem_cons_succ, List.setIfInBounds_toArray, List.set_cons_zero, List.set_cons_succ]
        refine monoN_stay (i := 6) (v := ?_) rfl (by kernel_rfl) (by kernel_rfl) (by kernel_rfl) (fun _ _ _ h => h) (Or.inl ⟨by rfl, ?_⟩) ?_
        rotate_left 1
        · (intro wL hL; go_simp; try with_reducible rfl)
        try simp only [Act.put, List.getElem_toArray, List.getElem_cons_zero, List.getElem_cons_succ, List.setIfInBounds_toArray, List.set_cons_zero, List.set_cons_succ]
        refine monoN_stay (i := 7) (v := ?_) rfl (by kernel_rfl) (by kernel_rfl) (by kernel_rfl) (fun _ _ _ h => h) (Or.inl ⟨by rfl, ?_⟩) ?_
        rotate_left 1
        · (intro wL hL; go_simp; try with_reducible rfl)
        try simp only [Act.put, List.getElem_toArray, List.getElem_cons_zero, List.getElem_cons_succ, List.setIfInBounds_toArray, List.set_cons_zero, List.set_cons_succ]
        refine monoN_stay (i := 8) (v := ?_) rfl (by kernel_rfl) (by kernel_rfl) (by kernel_rfl) (fun _ _ _ h => h) (Or.inl ⟨by rfl, ?_⟩) ?_
        rotate_left 1
        · (intro wL hL; have cL := HH.out.range (k := j + 1) BE9.out hL (fun _ _ h => h) HI.out; have c0 := cL 0 _ rfl; have zi : bh < wL.heap.size := Nat.lt_of_lt_of_le (Nat.lt_of_lt_of_le hb1 BE9.out.size) hL.size; simp only [Nat.add_zero] at c0; go_simp; try with_reducible rfl)
        try simp only [Act.put, List.getElem_toArray, List.getElem_cons_zero, List.getElem_cons_succ, List.setIfInBounds_toArray, List.set_cons_zero, List.set_cons_succ]
        refine monoN_stay (i := 9) (v := ?_) rfl (by kernel_rfl) (by kernel_rfl) (by kernel_rfl) (fun _ _ _ h => h) (Or.inl ⟨by rfl, ?_⟩) ?_
        rotate_left 1
        · (intro wL hL; go_simp; try with_reducible rfl)
        try simp only [Act.put, List.getElem_toArray, List.getElem_cons_zero, List.getElem_cons_succ, List.setIfInBounds_toArray, List.set_cons_zero, List.set_cons_succ]
        refine monoN_stay (i := 10) (v := ?_) rfl (by kernel_rfl) (by kernel_rfl) (by kernel_rfl) (fun _ _ _ h => h) (Or.inl ⟨by rfl, ?_⟩) ?_
        rotate_left 1
        · (intro wL hL; have lL := (PB1.out.but hL (fun h => h)).cell; have zL := (PB1.out.but hL (fun h => h)).lt; go_simp; try with_reducible rfl)
        try simp only [Act.put, List.getElem_toArray, List.getElem_cons_zero, List.getElem_cons_succ, List.setIfInBounds_toArray, List.set_cons_zero, List.set_cons_succ]
        refine monoN_stay (i := 11) (v := ?_) rfl (by kernel_rfl) (by kernel_rfl) (by kernel_rfl) (fun _ _ _ h => h) (Or.inl ⟨by rfl, ?_⟩) ?_
        rotate_left 1
        · (intro wL hL; go_simp; try with_reducible rfl)
        try simp only [Act.put, List.getElem_toArray, List.getElem_cons_zero, List.getElem_cons_succ, List.setIfInBounds_toArray, List.set_cons_zero, List.set_cons_succ]
        refine monoN_stay (i := 12) (v := ?_) rfl (by kernel_rfl) (by kernel_rfl) (by kernel_rfl) (fun _ _ _ h => h) (Or.inl ⟨by rfl, ?_⟩) ?_
        rotate_left 1
        · (intro wL hL; have w1 : IntKind.i64.wrap (j : Int) = (j : Int) := (by rw [IntKind.wrap_i64]; omega); go_simp; try with_reducible rfl)
        try simp only [Act.put, List.getElem_toArray, List.getElem_cons_zero, List.getElem_cons_succ, List.setIfInBounds_toArray, List.set_cons_zero, List.set_cons_succ]
        refine monoN_stay (i := 13) (v := ?_) rfl (by kernel_rfl) (by kernel_rfl) (by kernel_rfl) (fun _ _ _ h => h) (Or.inl ⟨by rfl, ?_⟩) ?_
        rotate_left 1
        · (intro wL hL; go_simp; try with_reducible rfl)
        try simp only [Act.put, List.getElem_toArray, List.getElem_cons_zero, List.getElem_cons_succ, List.setIfInBounds_toArray, List.set_cons_zero, List.set_cons_succ]
        refine monoN_stay (i := 14) (v := ?_) rfl (by kernel_rfl) (by kernel_rfl) (by kernel_rfl) (fun _ _ _ h => h) (Or.inl ⟨by rfl, ?_⟩) ?_
        rotate_left 1
        · (intro wL hL; go_simp; try with_reducible rfl)
        try simp only [Act.put, List.getElem_toArray, List.getElem_cons_zero, List.getElem_cons_succ, List.setIfInBounds_toArray, List.set_cons_zero, List.set_cons_succ]
        refine monoN_stay (i := 15) (v := ?_) rfl (by kernel_rfl) (by kernel_rfl) (by kernel_rfl) (fun _ _ _ h => h) (Or.inl ⟨by rfl, ?_⟩) ?_
        rotate_left 1
        · (intro wL hL; have cL := HH.out.range (k := j) BE9.out hL (fun _ _ h => h) HJ.out; have c0 := cL 0 _ rfl; have zi : bh < wL.heap.size := Nat.lt_of_lt_of_le (Nat.lt_of_lt_of_le hb1 BE9.out.size) hL.size; simp only [Nat.add_zero] at c0; go_simp; try with_reducible rfl)
        try simp only [Act.put, List.getElem_toArray, List.getElem_cons_zero, List.getElem_cons_succ, List.setIfInBounds_toArray, List.set_cons_zero, List.set_cons_succ]
        refine monoN_stay (i := 16) (v := ?_) rfl (by kernel_rfl) (by kernel_rfl) (by kernel_rfl) (fun _ _ _ h => h) (Or.inl ⟨by rfl, ?_⟩) ?_
        rotate_left 1
        · (intro wL hL; go_simp; try with_reducible rfl)
        try simp only [Act.put, List.getElem_toArray, List.getElem_cons_zero, List.getElem_cons_succ, List.setIfInBounds_toArray, List.set_cons_zero, List.set_cons_succ]
        refine monoN_stay (i := 17) (v := ?_) rfl (by kernel_rfl) (by kernel_rfl) (by kernel_rfl) (fun _ _ _ h => h) (Or.inl ⟨by rfl, ?_⟩) ?_
        rotate_left 1
        · (intro wL hL; go_simp; try with_reducible rfl)
        try simp only [Act.put, List.getElem_toArray, List.getElem_cons_zero, List.getElem_cons_succ, List.setIfInBounds_toArray, List.set_cons_zero, List.set_cons_succ]
        refine monoN_done (by kernel_rfl) ?_ _
        have l8 := O8.out.cell
        have z8 := O8.out.lt
        have l1 := PB1.out.cell
        have z1 := PB1.out.lt
        go_wp2_with fail
        go_roundw
        case rel => exact ⟨j + 1 + 1, by omega, by go_num, Lib.hid ⟨O8.out, PB1.out, BE9.out, BEL.out⟩⟩
        case measure => simp [intOf]; omega
    · have e : k = len := by omega
      subst e
      go_wp2_with fail
      go_ret
      exact ⟨rfl, BEL.out⟩
end Go.Proofs.Ytjepnaefkfkpcaa
