/- DiskPlays, walked. -/
import Derived.Test.YteofkbidahefeaaDskM
namespace Go.Proofs.Yteofkbidahefeaa
set_option linter.unusedVariables false
set_option linter.unusedSimpArgs false
set_option maxRecDepth 100000
open Go.RowKit

theorem DdW.later {w w' : World} {l : List Dd} {v : Value} (h : DdW w l v) (hb : Below w.heap.size w w') : DdW w' l v := ⟨h.1.later hb, fun x hx => ⟨(h.2 x hx).1.later hb, (h.2 x hx).2⟩⟩
/-- What was told is zeros up to j. -/
def ZRel (B m q : Nat) (w5 : World) (iv : Value) (wz : World) : Prop := ∃ j : Nat, j ≤ m ∧ iv = .int .i64 j ∧ Hid ((0 < m → ∃ cur, Own wz q cur 5 ∧ m ≤ cur.size) ∧ Below B w5 wz)
def DpRel (n base g b : Nat) (w0 : World) (iv : Value) (wr : World) : Prop :=
  ∃ k : Nat, k ≤ n ∧ iv = .int .i64 k ∧ Hid (∃ d v u, Two d base g b v u wr ∧ d.l.length ≤ 1000 * k ∧ Below base w0 wr)
set_option maxHeartbeats 8000000 in
theorem diskPlays_calls (l : List Dd) (lv : Value) (w : World) (h : DdW w l lv) :
    Calls Try.prog 3 #[lv] w fun e w' => e = .returned (.bool true) ∧ Below w.heap.size w w' := by
  have CU := fun w' => Lib.hid (dkUpL_calls w')
  have HD := Lib.hid h
  have CFW := fun w' h => Lib.hid (fewD_calls l lv w' h)
  obtain ⟨⟨oa, cap, bd, od, rfl, hr⟩, _⟩ := h
  have HR := Lib.hid hr
  have hcap := hr.len
  have hmax := hr.max
  unfold maxLen at hmax
  clear hr
  have hf : fewDI l = 0 ∨ (fewDI l = 1 ∧ l.length ≤ 100 ∧ ∀ x ∈ l, x.b.length ≤ 1000) := by
    unfold fewDI fewD
    split
    · rename_i h
      rw [Bool.and_eq_true, decide_eq_true_eq, List.all_eq_true] at h
      exact .inr ⟨rfl, h.1, fun x hx => of_decide_eq_true (h.2 x hx)⟩
    · exact .inl rfl
  rcases hf with hf | ⟨hf, hl1, hl2⟩
  · rw [hf] at CFW
    clear hf
    go_enter Try.func3, Try.ntmps3
    go_wp2_with (first
    | (go_at_call 5; (with_reducible refine (CU _).out.mono ?_); rintro e w1 ⟨rfl, hb⟩; have BEL := Lib.hid hb; clear hb)
    | (go_at_call 6; (with_reducible refine (dkNew_calls _).mono ?_); rintro e w2 ⟨rfl, hb, hx⟩; have HX := Lib.hid (hx.mono BEL.out.size); have hz2 := hx.o.lt; have BE1 := Lib.hid BEL.out.size; replace BEL := Lib.hid (BEL.out.trans (hb.mono BEL.out.size)); clear hb hx)
    | (go_at_call 7; (with_reducible refine (dmNew_calls _).mono ?_); rintro e w3 ⟨rfl, hb⟩; have hz3 := Nat.lt_of_lt_of_le hz2 hb.size; replace HX := Lib.hid (HX.out.later (hb.trans ((Below.refl _ _).alloc hb.size (.cells #[.slice none 0 0, .int .i64 (-1), .bool false] 28)))); replace BEL := Lib.hid ((BEL.out.trans (hb.mono BEL.out.size)).alloc (Nat.le_trans BEL.out.size hb.size) (.cells #[.slice none 0 0, .int .i64 (-1), .bool false] 28)); have HM0 := Lib.hid (Own.new w3 #[.slice none 0 0, .int .i64 (-1), .bool false] 28); clear hb)
    | (go_at_call 8; (with_reducible refine (CFW _ (HD.out.later BEL.out)).out.mono ?_); rintro e w4 ⟨rfl, rfl⟩)
    | fail)
    go_ret
    exact ⟨rfl, BEL.out⟩
  · rw [hf] at CFW
    clear hf
    have HL2 := Lib.hid hl2
    clear hl2
    generalize hn : l.length = n at *
    have HN := Lib.hid hn
    clear hn
    go_enter Try.func3, Try.ntmps3
    go_wp2_with (first
    | (go_at_call 5; (with_reducible refine (CU _).out.mono ?_); rintro e w1 ⟨rfl, hb⟩; have BEL := Lib.hid hb; clear hb)
    | (go_at_call 6; (with_reducible refine (dkNew_calls _).mono ?_); rintro e w2 ⟨rfl, hb, hx⟩; have HX := Lib.hid (hx.mono BEL.out.size); have hz2 := hx.o.lt; have BE1 := Lib.hid BEL.out.size; replace BEL := Lib.hid (BEL.out.trans (hb.mono BEL.out.size)); clear hb hx)
    | (go_at_call 7; (with_reducible refine (dmNew_calls _).mono ?_); rintro e w3 ⟨rfl, hb⟩; have hz3 := Nat.lt_of_lt_of_le hz2 hb.size; replace HX := Lib.hid (HX.out.later (hb.trans ((Below.refl _ _).alloc hb.size (.cells #[.slice none 0 0, .int .i64 (-1), .bool false] 28)))); replace BEL := Lib.hid ((BEL.out.trans (hb.mono BEL.out.size)).alloc (Nat.le_trans BEL.out.size hb.size) (.cells #[.slice none 0 0, .int .i64 (-1), .bool false] 28)); have HM0 := Lib.hid (Own.new w3 #[.slice none 0 0, .int .i64 (-1), .bool false] 28); clear hb)
    | (go_at_call 8; (with_reducible refine (CFW _ (HD.out.later BEL.out)).out.mono ?_); rintro e w4 ⟨rfl, rfl⟩)
    | fail)
    have T0 := Lib.hid (show Two newDk w.heap.size w1.heap.size w3.heap.size (.slice none 0 0) (.slice none 0 0) _ from ⟨new_ok, HX.out, ⟨HM0.out, by have := BE1.out; omega, OwnB.nil _ _, fun n hn => by cases hn⟩, apart_nil _⟩)
    have hgb := BE1.out
    have hgb3 : w.heap.size ≤ w3.heap.size := by omega
    clear HX HM0 CFW CU hz2
    go_loopw [6] (fun iv wr => DpRel n w.heap.size w1.heap.size w3.heap.size w iv wr) (fun iv _ => n - (intOf iv).toNat)
    case atStart => exact ⟨0, Nat.zero_le _, rfl, Lib.hid ⟨_, _, _, T0.out, by simp [newDk], BEL.out⟩⟩
    case round =>
      clear T0 BEL
      obtain ⟨k, hk, rfl, HP⟩ := hrel
      obtain ⟨wo, hwo⟩ : ∃ wo, wo = wr := ⟨_, rfl⟩
      subst hwo
      by_cases hlt : k < n
      · obtain ⟨d, v, u, hT, hlen, hbel⟩ := HP.out
        clear HP
        obtain ⟨x, hx⟩ : ∃ x, l[k]? = some x := ⟨_, List.getElem?_eq_getElem (by rw [HN.out]; exact hlt)⟩
        obtain ⟨rfl, hbd⟩ := HR.out.at0 (by rw [HN.out]; omega)
        have c0 : wo.cell? ⟨bd, od + k * 3, none⟩ = some (.int .i64 x.what) := (hbel.cell (p := ⟨bd, od + k * 3, none⟩) hbd).trans (HR.out.cell k x hx 0 _ rfl)
        have c1 : wo.cell? ⟨bd, od + k * 3 + 1, none⟩ = some (.int .i64 x.n) := (hbel.cell (p := ⟨bd, od + k * 3 + 1, none⟩) hbd).trans (HR.out.cell k x hx 1 _ rfl)
        have c2 : wo.cell? ⟨bd, od + k * 3 + 2, none⟩ = some x.v := (hbel.cell (p := ⟨bd, od + k * 3 + 2, none⟩) hbd).trans (HR.out.cell k x hx 2 _ rfl)
        have hxm := List.mem_of_getElem? hx
        have HB := Lib.hid (HD.out.2 x hxm)
        have hbl := HL2.out x hxm
        have HBL := Lib.hid hbl
        have hk100 : k < 100 := by omega
        have HLEN := Lib.hid hlen
        have hdl : d.l.length ≤ 100000 := by omega
        clear hx hxm hbl hlen
        obtain ⟨what, xn, xb, xv⟩ := x
        dsimp only at c0 c1 c2 HB HBL
        obtain ⟨ob, cb, ev, hxl, hxm⟩ := (show ByW w xb xv from HB.out.1).val
        subst ev
        unfold maxLen at hxm
        have hxb : xb.length ≤ 1000 := HBL.out
        have ZB := Lib.hid hbd
        have HXB : Hid (ByW w xb (.slice ob xb.length cb)) := HB.out.1
        have T := Lib.hid (hT.later ((Below.refl _ _).alloc (Nat.le_refl _) (.cells #[.int .i64 what, .int .i64 xn, .slice ob xb.length cb] 32)))
        have BEL := Lib.hid (hbel.alloc (Nat.le_trans hT.c.size (Nat.le_refl _)) (.cells #[.int .i64 what, .int .i64 xn, .slice ob xb.length cb] 32))
        have O7 := Lib.hid (Own.new wo #[.int .i64 what, .int .i64 xn, .slice ob xb.length cb] 32)
        clear hT hbel
        have CPK := fun w' => Lib.hid (pick8_calls what w')
        have hp := pick8_le what
        generalize pick8 what = p at *
        go_upto_block 2 with (first | (go_at_call 9; (with_reducible refine (CPK _).out.mono ?_); rintro e w4 ⟨rfl, rfl⟩) | fail)
        go_cut [8, 9] (fun s8 s9 ws => ∃ c : Int, s8 = .int .i64 c ∧ s9 = .int .i64 c ∧ Hid (∃ d v u, Two d w.heap.size w1.heap.size w3.heap.size v u ws ∧ d.l.length ≤ 1000 * (k + 1) ∧ Below w.heap.size w ws))
        case first =>
          have lA := O7.out.cell
          have zA := O7.out.lt
          have hp2 : p = 4 ∨ p = 5 ∨ p = 6 ∨ p = 7 ∨ (p ≠ 4 ∧ p ≠ 5 ∧ p ≠ 6 ∧ p ≠ 7) := by omega
          clear c0 c1 c2 CPK
          rcases hp2 with rfl | rfl | rfl | rfl | ⟨n4, n5, n6, n7⟩
          · go_wp2_with (first | (go_at_call 11; (with_reducible refine (dkFuse_calls d xn _ _ _ _ T.out.c).mono ?_); rintro e w5 ⟨rfl, ht⟩; have TM := Lib.hid (T.out.mid ht); have O7' := Lib.hid (O7.out.beside T.out.c ht dk_dd dd_ne); have TC := Lib.hid ht.bx; have BE5 := Lib.hid (BEL.out.trans ht.bel); have lB := O7'.out.cell; have zB := O7'.out.lt; clear ht lA zA) | (go_at_call 10; (with_reducible refine (code_calls _ (fuseE_le d xn) _).mono ?_); rintro e w6 ⟨rfl, rfl⟩) | (go_at_call 12; (with_reducible refine (dmLight_calls d xn _ _ _ _ TM.out.1).mono ?_); rintro e w7 ⟨rfl, hm⟩; have T7 := Lib.hid (Two.step (d' := fuseD d xn) (fuse_ok T.out.f HB.out.2) TC.out TM.out hm); have BE7 := Lib.hid (BE5.out.trans hm.bel); clear hm) | fail)
            go_meet
            exact ⟨_, rfl, rfl, Lib.hid ⟨_, _, _, T7.out, by rw [fuse_len]; have := HLEN.out; omega, BE7.out⟩⟩
          · go_wp2_with (first | (go_at_call 13; (with_reducible refine (dkUp_calls d _ _ _ _ T.out.c).mono ?_); rintro e w5 ⟨rfl, ht⟩; have TM := Lib.hid (T.out.mid ht); have TC := Lib.hid ht.bx; have BE5 := Lib.hid (BEL.out.trans ht.bel); clear ht lA zA) | (go_at_call 14; (with_reducible refine (dmUp_calls d _ _ _ _ TM.out.1).mono ?_); rintro e w7 ⟨rfl, hm⟩; have T7 := Lib.hid (Two.step (d' := upD d) (up_ok d) TC.out TM.out hm); have BE7 := Lib.hid (BE5.out.trans hm.bel); clear hm) | fail)
            go_meet
            exact ⟨_, rfl, rfl, Lib.hid ⟨_, _, _, T7.out, by have := HLEN.out; simp only [upD]; omega, BE7.out⟩⟩
          · go_wp2_with (first | (go_at_call 15; (with_reducible refine (dkCut_calls d xn _ _ _ _ T.out.c).mono ?_); rintro e w5 ⟨v5, rfl, ht⟩; have TM := Lib.hid (T.out.mid ht); have O7' := Lib.hid (O7.out.beside T.out.c ht dk_dd dd_ne); have TC := Lib.hid ht.bx; have BE5 := Lib.hid (BEL.out.trans ht.bel); have lB := O7'.out.cell; have zB := O7'.out.lt; clear ht lA zA) | (go_at_call 10; (with_reducible refine (code_calls _ (cutE_le d xn) _).mono ?_); rintro e w6 ⟨rfl, rfl⟩) | (go_at_call 16; (with_reducible refine (dmCut_calls d xn _ _ _ _ TM.out.1 (by omega)).mono ?_); rintro e w7 ⟨u7, rfl, hm⟩; have T7 := Lib.hid (Two.step (d' := cutD d xn) (cut_ok T.out.f xn) TC.out TM.out hm); have BE7 := Lib.hid (BE5.out.trans hm.bel); clear hm) | fail)
            go_meet
            exact ⟨_, rfl, rfl, Lib.hid ⟨_, _, _, T7.out, by have := cut_len d xn; have := HLEN.out; omega, BE7.out⟩⟩
          · go_wp2_with (first | (go_at_call 17; (with_reducible refine (dkBytes_calls d _ _ _ _ T.out.c (by omega)).mono ?_); rintro e w5 ⟨u1, rfl, ho, hb⟩; have T5 := Lib.hid (And.intro True.intro hb); have BE5 := Lib.hid (BEL.out.trans (hb.mono T.out.c.size)); obtain ⟨oq, cq, q, rfl, hq1, hq2, hq3⟩ := row_slice ho; have HO := Lib.hid ho; clear ho hb lA zA) | fail)
            unfold maxLen at hq2
            have HQ3 := Lib.hid hq3
            clear hq3
            generalize hm : d.l.length = m at *
            have HMm := Lib.hid hm
            clear hm
            have HB4 := Lib.hid T5.out.2
            go_loopw [11] (fun iv wz => ZRel (wo.alloc (.cells #[.int .i64 what, .int .i64 xn, .slice ob xb.length cb] 32)).heap.size m q w5 iv wz) (fun iv _ => m - (intOf iv).toNat)
            case atStart => exact ⟨0, Nat.zero_le _, rfl, Lib.hid ⟨fun h0 => by have h1 := HQ3.out h0; have h2 := HO.out; rw [h1.1] at h2; obtain ⟨cur, h3, h4⟩ := own_cur h2; exact ⟨cur, h3, by rw [HMm.out] at h4; exact h4⟩, Below.refl _ _⟩⟩
            case round =>
              obtain ⟨j, hj, rfl, HZ⟩ := hrel
              by_cases hlt2 : j < m
              · obtain ⟨cur, hc, hcs⟩ := HZ.out.1 (by omega)
                obtain ⟨rfl, hq4, hq5⟩ := HQ3.out (by omega)
                obtain ⟨y, hy⟩ : ∃ y, cur[j]? = some y := ⟨_, Array.getElem?_eq_getElem (by omega)⟩
                have y0 : wr.cell? ⟨q, j, none⟩ = some y := (hc.cell j).trans hy
                have y1 := hc.free j
                have y2 := hc.lt
                have HQ4 := Lib.hid hq4
                have HCC := Lib.hid hc
                have HCS := Lib.hid hcs
                clear hq4 hq5 hc hcs hy
                go_wp2_with fail
                go_roundw
                case rel => exact ⟨j + 1, by omega, by go_num, Lib.hid ⟨fun _ => ⟨_, HCC.out.set j (.int .u8 0), by have := HCS.out; simpa using this⟩, HZ.out.2.setCell HQ4.out _⟩⟩
                case measure => simp [intOf]; omega
              · have T7 := Lib.hid (T.out.later (HB4.out.trans HZ.out.2))
                have BE7 := Lib.hid (BE5.out.trans (HZ.out.2.mono T.out.c.size))
                go_wp2_with fail
                go_meet
                exact ⟨0, rfl, rfl, Lib.hid ⟨_, _, _, T7.out, by have := HLEN.out; have := HMm.out; omega, BE7.out⟩⟩
          · go_wp2_with (first | (go_at_call 18; (with_reducible refine (dkAdd_calls d xb _ _ _ _ _ T.out.c T.out.f (HXB.out.later BEL.out) (by omega)).mono ?_); rintro e w5 ⟨v5, rfl, ht⟩; have TM := Lib.hid (T.out.mid ht); have O7' := Lib.hid (O7.out.beside T.out.c ht dk_dd dd_ne); have TC := Lib.hid ht.bx; have BE5 := Lib.hid (BEL.out.trans ht.bel); have lB := O7'.out.cell; have zB := O7'.out.lt; clear ht lA zA) | (go_at_call 10; (with_reducible refine (code_calls _ (addE_le d xb) _).mono ?_); rintro e w6 ⟨rfl, rfl⟩) | (go_at_call 19; (with_reducible refine (dmAdd_calls d xb _ _ _ _ _ TM.out.1 T.out.f (HXB.out.later BE5.out) (notIn_old HXB.out hgb3) (by omega)).mono ?_); rintro e w7 ⟨u7, rfl, hm⟩; have T7 := Lib.hid (Two.step (d' := addD d xb) (add_ok T.out.f xb) TC.out TM.out hm); have BE7 := Lib.hid (BE5.out.trans hm.bel); clear hm) | fail)
            go_meet
            exact ⟨_, rfl, rfl, Lib.hid ⟨_, _, _, T7.out, by have := add_len d xb; have := HLEN.out; have := HBL.out; omega, BE7.out⟩⟩
        case rest =>
          clear hdl T BEL O7 HLEN d v u
          obtain ⟨c, rfl, rfl, HC⟩ := hcut
          obtain ⟨d, v, u, hT, hlen, hbel⟩ := HC.out
          clear HC
          have T := Lib.hid hT
          have BE := Lib.hid hbel
          have HLE := Lib.hid hlen
          have hdl : d.l.length ≤ 100000 := by omega
          clear hT hbel hlen
          have OM : Hid (Own wc w3.heap.size #[u, .int .i64 d.fr, .bool d.dn] 28) := T.out.m.o
          go_upto_region 30 with fail
          refine monoN_start (T := fun _ => False) (D := fun _ => false) (by kernel_rfl) (fun wd hbd => ?_)
          replace OM := Lib.hid (OM.out.later hbd)
          replace BE := Lib.hid (BE.out.trans (Below.mono hbd BE.out.size))
          replace T := Lib.hid (T.out.later hbd)
          clear hbd
          refine monoN_stay (i := 0) (v := ?_) rfl (by kernel_rfl) (by kernel_rfl) (by kernel_rfl) (fun _ _ _ h => h) (Or.inl ⟨by rfl, ?_⟩) ?_
          rotate_left 1
          · (intro wL hL; go_simp; try with_reducible rfl)
          try simp only [Act.put, List.getElem_toArray, List.getElem_cons_zero, List.getElem_cons_succ, List.setIfInBounds_toArray, List.set_cons_zero, List.set_cons_succ]
          refine monoN_stay (i := 1) (v := ?_) rfl (by kernel_rfl) (by kernel_rfl) (by kernel_rfl) (fun _ _ _ h => h) (Or.inl ⟨by rfl, ?_⟩) ?_
          rotate_left 1
          · (intro wL hL; go_simp; try with_reducible rfl)
          try simp only [Act.put, List.getElem_toArray, List.getElem_cons_zero, List.getElem_cons_succ, List.setIfInBounds_toArray, List.set_cons_zero, List.set_cons_succ]
          refine monoN_stay (i := 2) (v := ?_) rfl (by kernel_rfl) (by kernel_rfl) (by kernel_rfl) (fun _ _ _ h => h) (Or.inl ⟨by rfl, ?_⟩) ?_
          rotate_left 1
          · (intro wL hL; have q1 : (c != c) = false := bne_self_eq_false c; go_simp; try with_reducible rfl)
          try simp only [Act.put, List.getElem_toArray, List.getElem_cons_zero, List.getElem_cons_succ, List.setIfInBounds_toArray, List.set_cons_zero, List.set_cons_succ]
          refine monoN_stay (i := 3) (v := ?_) rfl (by kernel_rfl) (by kernel_rfl) (by kernel_rfl) (fun _ _ _ h => h) (Or.inl ⟨by rfl, ?_⟩) ?_
          rotate_left 1
          · (intro wL hL; go_simp; try with_reducible rfl)
          try simp only [Act.put, List.getElem_toArray, List.getElem_cons_zero, List.getElem_cons_succ, List.setIfInBounds_toArray, List.set_cons_zero, List.set_cons_succ]
          refine monoN_stay (i := 4) (v := ?_) rfl (by kernel_rfl) (by kernel_rfl) (by kernel_rfl) (fun _ _ _ h => h) (Or.inl ⟨by rfl, ?_⟩) ?_
          rotate_left 1
          · (intro wL hL; go_simp; try with_reducible rfl)
          try simp only [Act.put, List.getElem_toArray, List.getElem_cons_zero, List.getElem_cons_succ, List.setIfInBounds_toArray, List.set_cons_zero, List.set_cons_succ]
          refine monoN_stay (i := 6) (v := ?_) rfl (by kernel_rfl) (by kernel_rfl) (by kernel_rfl) (fun _ _ _ h => h) (Or.inl ⟨by rfl, ?_⟩) ?_
          rotate_left 1
          · (intro wL hL; go_simp; try with_reducible rfl)
          try simp only [Act.put, List.getElem_toArray, List.getElem_cons_zero, List.getElem_cons_succ, List.setIfInBounds_toArray, List.set_cons_zero, List.set_cons_succ]
          refine monoN_stay (i := 7) (v := ?_) rfl (by kernel_rfl) (by kernel_rfl) (by kernel_rfl) (fun _ _ _ h => h) (Or.inl ⟨by rfl, ?_⟩) ?_
          rotate_left 1
          · (intro wL hL; have lL := (OM.out.but hL (fun h => h)).cell; have zL := (OM.out.but hL (fun h => h)).lt; go_simp; try with_reducible rfl)
          try simp only [Act.put, List.getElem_toArray, List.getElem_cons_zero, List.getElem_cons_succ, List.setIfInBounds_toArray, List.set_cons_zero, List.set_cons_succ]
          refine monoN_r1 (i := 5) (by kernel_rfl) ?_
          have z5OM := OM.out.lt
          refine stepN_callG (by rfl) (by rfl) (fun K hK => ?_)
          try simp only [List.getElem_toArray, List.getElem_cons_zero, List.getElem_cons_succ]
          (go_simp; go_at_call 20; (with_reducible refine (dkDown_calls d _ _ _ _ T.out.c).mono ?_); rintro e w6 ⟨rfl, rfl⟩)
          try go_wp2_with fail
          refine hK.out _ _ (fun _ => Below.refl _ _) (But.refl _) ?_
          clear hK K
          try simp only [Act.put, List.getElem_toArray, List.getElem_cons_zero, List.getElem_cons_succ, List.setIfInBounds_toArray, List.set_cons_zero, List.set_cons_succ]
          refine monoN_stay (i := 8) (v := ?_) rfl (by kernel_rfl) (by kernel_rfl) (by kernel_rfl) (fun _ _ _ h => h) (Or.inl ⟨by rfl, ?_⟩) ?_
          rotate_left 1
          · (intro wL hL; have q1 : (d.dn != d.dn) = false := bne_self_eq_false _; go_simp; try with_reducible rfl)
          try simp only [Act.put, List.getElem_toArray, List.getElem_cons_zero, List.getElem_cons_succ, List.setIfInBounds_toArray, List.set_cons_zero, List.set_cons_succ]
          refine monoN_stay (i := 9) (v := ?_) rfl (by kernel_rfl) (by kernel_rfl) (by kernel_rfl) (fun _ _ _ h => h) (Or.inl ⟨by rfl, ?_⟩) ?_
          rotate_left 1
          · (intro wL hL; go_simp; try with_reducible rfl)
          try simp only [Act.put, List.getElem_toArray, List.getElem_cons_zero, List.getElem_cons_succ, List.setIfInBounds_toArray, List.set_cons_zero, List.set_cons_succ]
          refine monoN_stay (i := 10) (v := ?_) rfl (by kernel_rfl) (by kernel_rfl) (by kernel_rfl) (fun _ _ _ h => h) (Or.inl ⟨by rfl, ?_⟩) ?_
          rotate_left 1
          · (intro wL hL; go_simp; try with_reducible rfl)
          try simp only [Act.put, List.getElem_toArray, List.getElem_cons_zero, List.getElem_cons_succ, List.setIfInBounds_toArray, List.set_cons_zero, List.set_cons_succ]
          refine monoN_stay (i := 11) (v := ?_) rfl (by kernel_rfl) (by kernel_rfl) (by kernel_rfl) (fun _ _ _ h => h) (Or.inl ⟨by rfl, ?_⟩) ?_
          rotate_left 1
          · (intro wL hL; go_simp; try with_reducible rfl)
          try simp only [Act.put, List.getElem_toArray, List.getElem_cons_zero, List.getElem_cons_succ, List.setIfInBounds_toArray, List.set_cons_zero, List.set_cons_succ]
          refine monoN_stay (i := 14) (v := ?_) rfl (by kernel_rfl) (by kernel_rfl) (by kernel_rfl) (fun _ _ _ h => h) (Or.inl ⟨by rfl, ?_⟩) ?_
          rotate_left 1
          · (intro wL hL; go_simp; try with_reducible rfl)
          try simp only [Act.put, List.getElem_toArray, List.getElem_cons_zero, List.getElem_cons_succ, List.setIfInBounds_toArray, List.set_cons_zero, List.set_cons_succ]
          refine monoN_stay (i := 15) (v := ?_) rfl (by kernel_rfl) (by kernel_rfl) (by kernel_rfl) (fun _ _ _ h => h) (Or.inl ⟨by rfl, ?_⟩) ?_
          rotate_left 1
          · (intro wL hL; have lL := (OM.out.but hL (fun h => h)).cell; have zL := (OM.out.but hL (fun h => h)).lt; go_simp; try with_reducible rfl)
          try simp only [Act.put, List.getElem_toArray, List.getElem_cons_zero, List.getElem_cons_succ, List.setIfInBounds_toArray, List.set_cons_zero, List.set_cons_succ]
          refine monoN_stay (i := 16) (v := ?_) rfl (by kernel_rfl) (by kernel_rfl) (by kernel_rfl) (fun _ _ _ h => h) (Or.inl ⟨by rfl, ?_⟩) ?_
          rotate_left 1
          · (intro wL hL; have q1 := run_convert_by (byW_but0 (T.out.m.row.by T.out.m.ok) hL); go_simp; try with_reducible rfl)
          try simp only [Act.put, List.getElem_toArray, List.getElem_cons_zero, List.getElem_cons_succ, List.setIfInBounds_toArray, List.set_cons_zero, List.set_cons_succ]
          refine monoN_r1 (i := 12) (by kernel_rfl) ?_
          have z12OM := OM.out.lt
          refine stepN_callG (by rfl) (by rfl) (fun K hK => ?_)
          try simp only [List.getElem_toArray, List.getElem_cons_zero, List.getElem_cons_succ]
          (go_simp; go_at_call 17; (with_reducible refine (dkBytes_calls d _ _ _ _ T.out.c (by omega)).mono ?_); rintro e w7 ⟨v5, rfl, h5, hb⟩)
          try go_wp2_with fail
          refine hK.out _ _ (fun _ => hb) (But.of hb) ?_
          clear hK K
          replace OM := Lib.hid (OM.out.later hb)
          replace BE := Lib.hid (BE.out.trans (Below.mono hb BE.out.size))
          replace T := Lib.hid (T.out.later hb)
          have B5 := Lib.hid (h5.by T.out.c.ok)
          obtain ⟨o5, c5, rfl, _, _⟩ := h5.val
          clear h5
          clear hb
          try simp only [Act.put, List.getElem_toArray, List.getElem_cons_zero, List.getElem_cons_succ, List.setIfInBounds_toArray, List.set_cons_zero, List.set_cons_succ]
          refine monoN_stay (i := 13) (v := ?_) rfl (by kernel_rfl) (by kernel_rfl) (by kernel_rfl) (fun _ _ _ h => h) (Or.inl ⟨by rfl, ?_⟩) ?_
          rotate_left 1
          · (intro wL hL; have q1 := run_convert_by (byW_but0 B5.out hL); go_simp; try with_reducible rfl)
          try simp only [Act.put, List.getElem_toArray, List.getElem_cons_zero, List.getElem_cons_succ, List.setIfInBounds_toArray, List.set_cons_zero, List.set_cons_succ]
          refine monoN_stay (i := 17) (v := ?_) rfl (by kernel_rfl) (by kernel_rfl) (by kernel_rfl) (fun _ _ _ h => h) (Or.inl ⟨by rfl, ?_⟩) ?_
          rotate_left 1
          · (intro wL hL; have q1 : ((strN d.l).toList != (strN d.l).toList) = false := bne_self_eq_false _; go_simp; try with_reducible rfl)
          try simp only [Act.put, List.getElem_toArray, List.getElem_cons_zero, List.getElem_cons_succ, List.setIfInBounds_toArray, List.set_cons_zero, List.set_cons_succ]
          refine monoN_stay (i := 18) (v := ?_) rfl (by kernel_rfl) (by kernel_rfl) (by kernel_rfl) (fun _ _ _ h => h) (Or.inl ⟨by rfl, ?_⟩) ?_
          rotate_left 1
          · (intro wL hL; go_simp; try with_reducible rfl)
          try simp only [Act.put, List.getElem_toArray, List.getElem_cons_zero, List.getElem_cons_succ, List.setIfInBounds_toArray, List.set_cons_zero, List.set_cons_succ]
          refine monoN_done (by kernel_rfl) ?_ _
          go_wp2_with fail
          go_roundw
          case rel => exact ⟨k + 1, by omega, by go_num, Lib.hid ⟨d, v, u, T.out, by have := HLE.out; omega, BE.out⟩⟩
          case measure => simp [intOf]; omega
      · obtain ⟨_, _, _, _, _, hbel⟩ := HP.out
        have BEL := Lib.hid hbel
        clear HP hbel
        go_wp2_with fail
        go_ret
        exact ⟨rfl, BEL.out⟩

end Go.Proofs.Yteofkbidahefeaa
