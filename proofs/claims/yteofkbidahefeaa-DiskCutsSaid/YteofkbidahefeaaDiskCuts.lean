/- DiskCuts, walked. -/
import Derived.Test.YteofkbidahefeaaDskM
namespace Go.Proofs.Yteofkbidahefeaa
set_option linter.unusedVariables false
set_option linter.unusedSimpArgs false
set_option maxRecDepth 100000
open Go.RowKit

theorem BbW.later {w w' : World} {l : List (List Nat × Value)} {v : Value} (h : BbW w l v) (hb : Below w.heap.size w w') : BbW w' l v := ⟨h.1.later hb, fun x hx => (h.2 x hx).later hb⟩
theorem int_le {n : Int} (h : (Lit.int .i64 n).wf = true) : n ≤ 9223372036854775807 := by
  simp [Lit.wf, IntKind.min, IntKind.max, IntKind.signed, IntKind.bits] at h
  omega
theorem strN_add (a b : List Nat) : strN a ++ strN b = strN (a ++ b) := by
  unfold strN
  apply ByteArray.ext
  simp
theorem addD_none (l b : List Nat) : addD ⟨l, none, false⟩ b = ⟨l ++ b, none, false⟩ := rfl
theorem addE_none (l b : List Nat) : addE ⟨l, none, false⟩ b = 0 := rfl
theorem addD_more {l b : List Nat} {m : Nat} (h : b.length < m) : addD ⟨l, some m, false⟩ b = ⟨l ++ b, some (m - b.length), false⟩ ∧ addE ⟨l, some m, false⟩ b = 0 := by simp [addD, addE, h]
theorem addD_cut {l b : List Nat} {m : Nat} (h : ¬ b.length < m) : addD ⟨l, some m, false⟩ b = ⟨l ++ b.take m, none, true⟩ ∧ addE ⟨l, some m, false⟩ b = 8 := by simp [addD, addE, h]
theorem fuse_up {l : List Nat} {fu : Option Nat} {n : Int} (h : 0 ≤ n) : fuseD ⟨l, fu, false⟩ n = ⟨l, some n.toNat, false⟩ ∧ fuseE ⟨l, fu, false⟩ n = 0 := by
  have : ¬ n < 0 := by omega
  simp [fuseD, fuseE, this]
/-- The fuse, as the law tells it: not lit; lit, with so many left; lit, and gone. -/
def DcS (at_ : Int) (k : Nat) (lv rv : Value) (d : Dk) : Prop :=
  (lv = .bool false ∧ (∃ r, rv = .int .i64 r) ∧ d.dn = false ∧ d.fu = none) ∨
  (lv = .bool true ∧ at_ < k ∧ ∃ m : Nat, rv = .int .i64 m ∧ (m : Int) ≤ 9223372036854775807 ∧ d.dn = false ∧ d.fu = some m) ∨
  (lv = .bool true ∧ at_ < k ∧ rv = .int .i64 (-1) ∧ d.dn = true ∧ d.fu = none)
theorem DcS.mono {at_ : Int} {k k' : Nat} {lv rv : Value} {d : Dk} (h : DcS at_ k lv rv d) (hk : k ≤ k') : DcS at_ k' lv rv d := by
  rcases h with h | ⟨h1, h2, h3⟩ | ⟨h1, h2, h3⟩
  · exact .inl h
  · exact .inr (.inl ⟨h1, by omega, h3⟩)
  · exact .inr (.inr ⟨h1, by omega, h3⟩)
theorem DcS.ok {at_ : Int} {k : Nat} {lv rv : Value} {d : Dk} (h : DcS at_ k lv rv d) : d.okF := by
  intro n hn
  rcases h with ⟨_, _, _, h⟩ | ⟨_, _, m, _, h1, _, h⟩ | ⟨_, _, _, _, h⟩
  · rw [h] at hn; cases hn
  · rw [h] at hn; cases hn; exact h1
  · rw [h] at hn; cases hn
def DcRel (n base g : Nat) (at_ : Int) (w0 : World) (sv lv rv iv : Value) (wr : World) : Prop :=
  ∃ (k : Nat) (d : Dk), k ≤ n ∧ iv = .int .i64 k ∧ sv = .string (strN d.l) ∧ Hid (DcS at_ k lv rv d ∧ d.l.length ≤ 1000 * k ∧ (∃ v, Bx wr base g (dkA d v) 47 d.l v) ∧ Below base w0 wr)
attribute [local go_sem ↓] run_eq_code run_ne_same run_slice_hI
set_option maxHeartbeats 8000000 in
theorem diskCuts_calls (l : List (List Nat × Value)) (lv : Value) (at_ n back : Int) (w : World) (h : BbW w l lv) (hn9 : n ≤ 9223372036854775807) :
    Calls Try.prog 4 #[lv, .int .i64 at_, .int .i64 n, .int .i64 back] w fun e w' => e = .returned (.bool true) ∧ Below w.heap.size w w' := by
  have CU := fun w' => Lib.hid (dkUpL_calls w')
  have HD := Lib.hid h
  obtain ⟨⟨oa, cap, bd, od, rfl, hr⟩, _⟩ := h
  have HR := Lib.hid hr
  have hcap := hr.len
  have hmax := hr.max
  unfold maxLen at hmax
  clear hr
  by_cases hl : 60 < l.length
  · go_enter Try.func4, Try.ntmps4
    go_wp2_with (first | (go_at_call 5; (with_reducible refine (CU _).out.mono ?_); rintro e w1 ⟨rfl, hb⟩; have BEL := Lib.hid hb; clear hb) | (go_at_call 6; (with_reducible refine (dkNew_calls _).mono ?_); rintro e w2 ⟨rfl, hb, hx⟩; have HX := Lib.hid (hx.mono BEL.out.size); replace BEL := Lib.hid (BEL.out.trans (hb.mono BEL.out.size)); clear hb hx) | fail)
    go_ret
    exact ⟨rfl, BEL.out⟩
  · by_cases hn0 : n < 0
    · go_enter Try.func4, Try.ntmps4
      go_wp2_with (first | (go_at_call 5; (with_reducible refine (CU _).out.mono ?_); rintro e w1 ⟨rfl, hb⟩; have BEL := Lib.hid hb; clear hb) | (go_at_call 6; (with_reducible refine (dkNew_calls _).mono ?_); rintro e w2 ⟨rfl, hb, hx⟩; have HX := Lib.hid (hx.mono BEL.out.size); replace BEL := Lib.hid (BEL.out.trans (hb.mono BEL.out.size)); clear hb hx) | fail)
      go_ret
      exact ⟨rfl, BEL.out⟩
    · have hl1 : l.length ≤ 60 := by omega
      have hn1 : 0 ≤ n := by omega
      generalize hn : l.length = nn at *
      have HN := Lib.hid hn
      clear hn
      have g1 : decide ((60 : Int) < (nn : Int)) = false := decide_eq_false (by omega)
      have g2 : decide (n < 0) = false := decide_eq_false (by omega)
      go_enter Try.func4, Try.ntmps4
      go_wp2_with (first | (go_at_call 5; (with_reducible refine (CU _).out.mono ?_); rintro e w1 ⟨rfl, hb⟩; have BEL := Lib.hid hb; clear hb) | (go_at_call 6; (with_reducible refine (dkNew_calls _).mono ?_); rintro e w2 ⟨rfl, hb, hx⟩; have HX := Lib.hid (hx.mono BEL.out.size); replace BEL := Lib.hid (BEL.out.trans (hb.mono BEL.out.size)); clear hb hx) | fail)
      clear g1 g2
      have e0 : strN [] = ⟨#[]⟩ := rfl
      have E0 := Lib.hid e0
      clear e0
      have hgb : w.heap.size ≤ w1.heap.size := HX.out.ge
      go_loopw [11, 12, 13, 14] (fun sv lv rv iv wr => DcRel nn w.heap.size w1.heap.size at_ w sv lv rv iv wr) (fun _ _ _ iv _ => nn - (intOf iv).toNat)
      case atStart => exact ⟨0, newDk, Nat.zero_le _, rfl, rfl, Lib.hid ⟨.inl ⟨rfl, ⟨_, rfl⟩, rfl, rfl⟩, by simp [newDk], ⟨_, HX.out⟩, BEL.out⟩⟩
      case round =>
        clear HX BEL
        obtain ⟨k, d, hk, rfl, rfl, HP⟩ := hrel
        by_cases hlt : k < nn
        · obtain ⟨hS, hlen, ⟨v, hX⟩, hbel⟩ := HP.out
          clear HP
          obtain ⟨x, hx⟩ : ∃ x, l[k]? = some x := ⟨_, List.getElem?_eq_getElem (by rw [HN.out]; exact hlt)⟩
          obtain ⟨rfl, hbd⟩ := HR.out.at0 (by rw [HN.out]; omega)
          have c0 : w.cell? ⟨bd, od + k, none⟩ = some x.2 := by have := HR.out.cell k x hx 0 _ rfl; simpa using this
          have hB := HD.out.2 x (List.mem_of_getElem? hx)
          obtain ⟨xb, xv⟩ := x
          obtain ⟨ob, cb, ev, hxl, hxm⟩ := (show ByW w xb xv from hB).val
          subst ev
          unfold maxLen at hxm
          have HB : Hid (ByW w xb (.slice ob xb.length cb)) := hB
          have C0 := Lib.hid c0
          have c1 : wr.cell? ⟨bd, od + k, none⟩ = some (.slice ob xb.length cb) := (hbel.cell (p := ⟨bd, od + k, none⟩) hbd).trans C0.out
          have ZB := Lib.hid hbd
          have HX := Lib.hid hX
          have BEL := Lib.hid hbel
          have HS := Lib.hid hS
          have HLEN := Lib.hid hlen
          have hk60 : k < 60 := by omega
          have hdl : d.l.length ≤ 100000 := by omega
          clear hx hB c0 hbd hX hbel hS hlen
          by_cases h1000 : 1000 < xb.length
          · go_wp2_with fail
            go_ret
            exact ⟨rfl, BEL.out⟩
          · have hxb : xb.length ≤ 1000 := by omega
            go_upto_if 49 with fail
            go_cut [12, 13] (fun s12 s13 ws => Hid (∃ d' v', d'.l = d.l ∧ DcS at_ (k + 1) s12 s13 d' ∧ Bx ws w.heap.size w1.heap.size (dkA d' v') 47 d'.l v' ∧ Below w.heap.size w ws))
            case first =>
              by_cases he : (k : Int) = at_
              · have q1 : ((k : Int) == at_) = true := by rw [beq_iff_eq]; exact he
                have hd : d.dn = false ∧ d.fu = none := by
                  rcases HS.out with ⟨_, _, h1, h2⟩ | ⟨_, h, _⟩ | ⟨_, h, _⟩
                  · exact ⟨h1, h2⟩
                  · omega
                  · omega
                have HE := Lib.hid he
                clear he
                obtain ⟨dl, dfu, ddn⟩ := d
                obtain ⟨rfl, rfl⟩ := hd
                have CF := fun v w' h => Lib.hid (dkFuse_calls ⟨dl, none, false⟩ n w.heap.size w1.heap.size v w' h)
                rw [(fuse_up hn1).1, (fuse_up hn1).2, show errV 0 = .nilIface from rfl] at CF
                go_wp2_with (first | (go_at_call 11; (with_reducible refine (CF _ _ HX.out).out.mono ?_); rintro e w5 ⟨rfl, ht⟩; have HX2 := Lib.hid ht.bx; have BE2 := Lib.hid (BEL.out.trans ht.bel); clear ht) | fail)
                go_meet
                exact Lib.hid ⟨_, _, rfl, .inr (.inl ⟨rfl, by have := HE.out; omega, n.toNat, by rw [Int.toNat_of_nonneg hn1], by omega, rfl, rfl⟩), HX2.out, BE2.out⟩
              · have q1 : ((k : Int) == at_) = false := by rw [beq_eq_false_iff_ne]; exact he
                clear he
                go_wp2_with fail
                go_meet
                exact Lib.hid ⟨d, v, rfl, HS.out.mono (by omega), HX.out, BEL.out⟩
            case rest =>
              clear HS HX BEL c1
              obtain ⟨d', v', hl', hS, hX, hbel⟩ := hcut.out
              have HX := Lib.hid hX
              have BEL := Lib.hid hbel
              have HS := Lib.hid hS
              have HL' := Lib.hid hl'
              have e1 : strN d.l = strN d'.l := by rw [hl']
              rw [e1]
              replace HLEN : Hid (d'.l.length ≤ 1000 * k) := by rw [HL'.out]; exact HLEN.out
              replace hdl : d'.l.length ≤ 100000 := by rw [hl']; exact hdl
              clear hcut hX hbel hS hl' e1 HL' v
              obtain ⟨bq, hbq⟩ : ∃ bq : Bool, bq = (((k : Int) == back) && decide (at_ < (k : Int))) := ⟨_, rfl⟩
              have HBQ := Lib.hid hbq
              clear hbq
              go_upto_region 18 with fail
              go_cut [62] (fun s62 ws => s62 = .bool bq ∧ Hid (wc = ws))
              case first =>
                by_cases h : (k : Int) = back
                · have q1 : ((k : Int) == back) = true := by rw [beq_iff_eq]; exact h
                  have HE := Lib.hid h
                  clear h
                  go_wp2_with fail
                  go_meet
                  exact ⟨by rw [HBQ.out, (show ((k : Int) == back) = true by rw [beq_iff_eq]; exact HE.out), Bool.true_and], rfl⟩
                · have q1 : ((k : Int) == back) = false := by rw [beq_eq_false_iff_ne]; exact h
                  have HE := Lib.hid h
                  clear h
                  go_wp2_with fail
                  go_meet
                  exact ⟨by rw [HBQ.out, (show ((k : Int) == back) = false by rw [beq_eq_false_iff_ne]; exact HE.out), Bool.false_and], rfl⟩
              case rest =>
              obtain ⟨rfl, hw⟩ := hcut
              have ew := hw.out
              subst ew
              clear hw
              go_upto_if 62 with fail
              go_cut [12] (fun s12 ws => Hid (∃ d2 v2, d2.l = d'.l ∧ DcS at_ (k + 1) s12 u13 d2 ∧ Bx ws w.heap.size w1.heap.size (dkA d2 v2) 47 d2.l v2 ∧ Below w.heap.size w ws))
              case first =>
                cases bq
                · go_wp2_with fail
                  go_meet
                  exact Lib.hid ⟨d', v', rfl, HS.out, HX.out, BEL.out⟩
                · have hr : ∃ r, u13 = .int .i64 r := by
                    rcases HS.out with ⟨_, h, _⟩ | ⟨_, _, m, h, _⟩ | ⟨_, _, h, _⟩
                    · exact h
                    · exact ⟨_, h⟩
                    · exact ⟨_, h⟩
                  have HRR := Lib.hid hr
                  clear hr
                  go_wp2_with (first | (go_at_call 13; (with_reducible refine (dkUp_calls _ _ _ _ _ HX.out).mono ?_); rintro e w5 ⟨rfl, ht⟩; have HX2 := Lib.hid ht.bx; have BE2 := Lib.hid (BEL.out.trans ht.bel); clear ht) | fail)
                  go_meet
                  exact Lib.hid ⟨upD d', v', rfl, .inl ⟨rfl, HRR.out, rfl, rfl⟩, HX2.out, BE2.out⟩
              case rest =>
                clear HS HX BEL
                obtain ⟨d2, v2, hl', hS, hX, hbel⟩ := hcut.out
                have HX := Lib.hid hX
                have BEL := Lib.hid hbel
                have HL' := Lib.hid hl'
                have e1 : strN d'.l = strN d2.l := by rw [hl']
                rw [e1]
                replace HLEN : Hid (d2.l.length ≤ 1000 * k) := by rw [HL'.out]; exact HLEN.out
                replace hdl : d2.l.length ≤ 100000 := by rw [hl']; exact hdl
                have hok := hS.ok
                have c1 : wc.cell? ⟨bd, od + k, none⟩ = some (.slice ob xb.length cb) := (hbel.cell (p := ⟨bd, od + k, none⟩) ZB.out).trans C0.out
                have CA := fun sv w' hb hM => Lib.hid (dkAdd_calls d2 xb w.heap.size w1.heap.size v2 sv w' hb hok hM (by omega))
                have CD := fun v w' h => Lib.hid (dkDown_calls (addD d2 xb) w.heap.size w1.heap.size v w' h)
                clear hcut hX hbel hl' e1 HL' hok
                obtain ⟨dl, dfu, ddn⟩ := d2
                dsimp only at hS HLEN hdl
                rcases hS with ⟨rfl, ⟨r, rfl⟩, rfl, rfl⟩ | ⟨rfl, hat, m, rfl, hm, rfl, rfl⟩ | ⟨rfl, hat, rfl, rfl, rfl⟩
                · rw [addD_none, addE_none, show errV 0 = .nilIface from rfl] at CA
                  rw [addD_none] at CD
                  have ra := fun w' : World => run_string_add_sum (P := Try.prog) (w := w') (strN dl) (strN xb) (by rw [strN_size, strN_size]; omega)
                  rw [strN_add] at ra
                  go_wp2_with (first | (go_at_call 18; (with_reducible refine (CA _ _ HX.out (HB.out.later BEL.out)).out.mono ?_); rintro e w5 ⟨v5, rfl, ht⟩; have HX2 := Lib.hid ht.bx; have BE2 := Lib.hid (BEL.out.trans ht.bel); have c2 : w5.cell? ⟨bd, od + k, none⟩ = some (.slice ob xb.length cb) := (BE2.out.cell (p := ⟨bd, od + k, none⟩) ZB.out).trans C0.out; have r1 := run_convert_by (HB.out.later BE2.out); clear ht c1) | (go_at_call 20; (with_reducible refine (CD _ _ HX2.out).out.mono ?_); rintro e w6 ⟨rfl, rfl⟩) | fail)
                  go_roundw
                  case rel => exact ⟨k + 1, ⟨dl ++ xb, none, false⟩, by omega, by go_num, rfl, Lib.hid ⟨.inl ⟨rfl, ⟨_, rfl⟩, rfl, rfl⟩, by have := HLEN.out; simp only [List.length_append]; omega, ⟨_, HX2.out⟩, BE2.out⟩⟩
                  case measure => simp [intOf]; omega
                · by_cases hlt2 : xb.length < m
                  · rw [(addD_more hlt2).1, (addD_more hlt2).2, show errV 0 = .nilIface from rfl] at CA
                    rw [(addD_more hlt2).1] at CD
                    have ra := fun w' : World => run_string_add_sum (P := Try.prog) (w := w') (strN dl) (strN xb) (by rw [strN_size, strN_size]; omega)
                    rw [strN_add] at ra
                    have q3 : decide ((m : Int) ≤ (xb.length : Int)) = false := decide_eq_false (by omega)
                    go_wp2_with (first | (go_at_call 18; (with_reducible refine (CA _ _ HX.out (HB.out.later BEL.out)).out.mono ?_); rintro e w5 ⟨v5, rfl, ht⟩; have HX2 := Lib.hid ht.bx; have BE2 := Lib.hid (BEL.out.trans ht.bel); have c2 : w5.cell? ⟨bd, od + k, none⟩ = some (.slice ob xb.length cb) := (BE2.out.cell (p := ⟨bd, od + k, none⟩) ZB.out).trans C0.out; have r1 := run_convert_by (HB.out.later BE2.out); clear ht c1) | (go_at_call 20; (with_reducible refine (CD _ _ HX2.out).out.mono ?_); rintro e w6 ⟨rfl, rfl⟩) | fail)
                    go_roundw
                    case rel => exact ⟨k + 1, ⟨dl ++ xb, some (m - xb.length), false⟩, by omega, by go_num, rfl, Lib.hid ⟨.inr (.inl ⟨rfl, by omega, m - xb.length, by rw [show ((m - xb.length : Nat) : Int) = (m : Int) - xb.length by omega], by omega, rfl, rfl⟩), by have := HLEN.out; simp only [List.length_append]; omega, ⟨_, HX2.out⟩, BE2.out⟩⟩
                    case measure => simp [intOf]; omega
                  · rw [(addD_cut hlt2).1, (addD_cut hlt2).2, show errV 8 = .iface 44 (.int .i64 8) from rfl] at CA
                    rw [(addD_cut hlt2).1] at CD
                    have ra := fun w' : World => run_string_add_sum (P := Try.prog) (w := w') (strN dl) (strN (xb.take m)) (by rw [strN_size, strN_size]; simp only [List.length_take]; omega)
                    rw [strN_add] at ra
                    have q3 : decide ((m : Int) ≤ (xb.length : Int)) = true := decide_eq_true (by omega)
                    have q4 : (0 : Int) ≤ (m : Int) := by omega
                    have q5 : (m : Int) ≤ (cb : Int) := by omega
                    go_wp2_with (first | (go_at_call 18; (with_reducible refine (CA _ _ HX.out (HB.out.later BEL.out)).out.mono ?_); rintro e w5 ⟨v5, rfl, ht⟩; have HX2 := Lib.hid ht.bx; have BE2 := Lib.hid (BEL.out.trans ht.bel); have c2 : w5.cell? ⟨bd, od + k, none⟩ = some (.slice ob xb.length cb) := (BE2.out.cell (p := ⟨bd, od + k, none⟩) ZB.out).trans C0.out; have r1 := run_convert_by (HB.out.later BE2.out); have r2 := run_convert_by ((HB.out.later BE2.out).upto m (by omega)); clear ht c1) | (go_at_call 20; (with_reducible refine (CD _ _ HX2.out).out.mono ?_); rintro e w6 ⟨rfl, rfl⟩) | fail)
                    go_roundw
                    case rel => exact ⟨k + 1, ⟨dl ++ xb.take m, none, true⟩, by omega, by go_num, rfl, Lib.hid ⟨.inr (.inr ⟨rfl, by omega, rfl, rfl, rfl⟩), by have := HLEN.out; simp only [List.length_append, List.length_take]; omega, ⟨_, HX2.out⟩, BE2.out⟩⟩
                    case measure => simp [intOf]; omega
                · rw [(addD_down (d := ⟨dl, none, true⟩) (m := xb) rfl).1, (addD_down (d := ⟨dl, none, true⟩) (m := xb) rfl).2, show errV 8 = .iface 44 (.int .i64 8) from rfl] at CA
                  clear CD
                  go_wp2_with (first | (go_at_call 18; (with_reducible refine (CA _ _ HX.out (HB.out.later BEL.out)).out.mono ?_); rintro e w5 ⟨v5, rfl, ht⟩; have HX2 := Lib.hid ht.bx; have BE2 := Lib.hid (BEL.out.trans ht.bel); have c2 : w5.cell? ⟨bd, od + k, none⟩ = some (.slice ob xb.length cb) := (BE2.out.cell (p := ⟨bd, od + k, none⟩) ZB.out).trans C0.out; have r1 := run_convert_by (HB.out.later BE2.out); clear ht c1) | (go_at_call 20; (with_reducible refine (CD _ _ HX2.out).out.mono ?_); rintro e w6 ⟨rfl, rfl⟩) | fail)
                  go_roundw
                  case rel => exact ⟨k + 1, ⟨dl, none, true⟩, by omega, by go_num, rfl, Lib.hid ⟨.inr (.inr ⟨rfl, by omega, rfl, rfl, rfl⟩), by have := HLEN.out; show dl.length ≤ _; omega, ⟨_, HX2.out⟩, BE2.out⟩⟩
                  case measure => simp [intOf]; omega
        · obtain ⟨hS, hlen, ⟨v, hX⟩, hbel⟩ := HP.out
          have HX := Lib.hid hX
          have BEL := Lib.hid hbel
          have hdl : d.l.length ≤ 100000 := by omega
          have q1 : ((strN d.l).toList == (strN d.l).toList) = true := beq_self_eq_true _
          clear HP hS hlen hX hbel
          go_wp2_with (first | (go_at_call 17; (with_reducible refine (dkBytes_calls d _ _ _ _ HX.out (by omega)).mono ?_); rintro e w5 ⟨u1, rfl, ho, hb⟩; have r1 := run_convert_by (ho.by HX.out.ok); have BE2 := Lib.hid (BEL.out.trans (hb.mono HX.out.size)); obtain ⟨o1, c1, rfl, _, _⟩ := ho.val; clear ho hb) | fail)
          go_ret
          exact ⟨rfl, BE2.out⟩

end Go.Proofs.Yteofkbidahefeaa
