/- Joined: SrvE. -/
import Derived.Test.YthbjgfennclidaaGreatJ34
/- The code's May of layer 12. Walked. -/
namespace Go.Proofs.YthbjgfennclidaaGreat
set_option linter.unusedVariables false
set_option linter.unusedSimpArgs false
set_option maxRecDepth 100000
open Go Go.RowKit
theorem wpList_one {ops : Array Oper} {rest : List Oper} {op : Oper} {a : Act} {w : World} {Q : Exit → Act → World → Prop} (hw : Region.wanted op (yielded ops a.tmps) = true) (ty : TypeId) (x : Operand) (ho : op.op = .load ty x)
    (b o : Nat) (hx : a.eval x = .pointer (some ⟨b, o, none⟩)) (v : Value) (hr : (execOp a.eval op).run Tryz.prog w = .ok (.value v) w)
    (h : wpList Tryz.prog ops Q rest (a.put op.dst v) w) : wpList Tryz.prog ops Q (op :: rest) a w :=
  wpList_step fun K hK => by rw [if_pos hw]; unfold Oper.wp; rw [hr, Oper.upon_value]; exact hK _ _ h
set_option maxRecDepth 100000 in
set_option maxHeartbeats 8000000 in
theorem srvMay_calls (m : Mg) (fv kv hv lv : Value) (w : World) (hM : MgW w m fv kv hv lv) (hi : (flatI m.k.l).length ≤ 10000) :
    Calls Tryz.prog 12 #[.agg (mgA m fv kv hv lv)] w fun e w' => e = .returned (.bool (mayM m)) ∧ Below w.heap.size w w' := by
  obtain ⟨of_, cf, rfl⟩ := lies_val hM.lf
  obtain ⟨ok_, ck, rfl⟩ := hM.lk.val
  obtain ⟨oh, ch, rfl⟩ := hM.lh.val
  obtain ⟨ol, cl, rfl⟩ := hM.ll.val
  have HM := Lib.hid hM
  have CP := fun w' h => Lib.hid (predMay_calls m.f (.slice of_ m.f.kids.length cf) w' h)
  have CK := fun w' h => Lib.hid (knowMay_calls nameB rfl m.k (.slice ok_ m.k.l.length ck) w' h hi)
  have CH := fun w' h => Lib.hid (srvHad_calls m.has (.slice oh m.has.length ch) w' h)
  have CB := fun w' => Lib.hid (srvBare_calls m (.slice of_ m.f.kids.length cf) (.slice ok_ m.k.l.length ck) (.slice oh m.has.length ch) ol cl w')
  have C5 := fun w' => Lib.hid (srvWithin_calls m.frm 1 8 w')
  have C6 := fun w' => Lib.hid (srvWithin_calls m.dst 1 8 w')
  have C7 := fun w' => Lib.hid (srvWithin_calls m.sid 0 1000000 w')
  have OA := Lib.hid (Own.new w (mgA m (.slice of_ m.f.kids.length cf) (.slice ok_ m.k.l.length ck) (.slice oh m.has.length ch) (.slice ol m.l.length cl)) 47)
  have BEL := Lib.hid ((Below.refl w.heap.size w).alloc (Nat.le_refl _) (.cells (mgA m (.slice of_ m.f.kids.length cf) (.slice ok_ m.k.l.length ck) (.slice oh m.has.length ch) (.slice ol m.l.length cl)) 47))
  clear hM hi
  have HE := Lib.hid (show mayM m = (decide (m.kind = 1) && ((inB m.frm 1 8 && (inB m.dst 1 8 && !decide (m.frm = m.dst))) && (inB m.sid 0 1000000 && (bareB m && (hadB m.has && (Pr.mayB m.f && mayK nameB m.k)))))) from rfl)
  generalize mayM m = res at *
  generalize bareB m = b1 at *
  generalize hadB m.has = b2 at *
  generalize Pr.mayB m.f = b3 at *
  generalize mayK nameB m.k = b4 at *
  generalize inB m.frm 1 8 = b5 at *
  generalize inB m.dst 1 8 = b6 at *
  generalize inB m.sid 0 1000000 = b7 at *
  by_cases h0 : m.kind = 1
  · have hkb : (m.kind == 1) = true := by simp [h0]
    have h0h := Lib.hid h0
    clear h0
    cases b5
    · have HR := Lib.hid (show res = false by rw [HE.out, decide_eq_true h0h.out]; simp)
      clear HE
      go_enter Tryz.func12, Tryz.ntmps12
      go_wp2_with (first
        | (refine wpList_one (by rfl) 3 _ (by rfl) w.heap.size 0 (by rfl) (.int .i64 m.kind) (by have lL := OA.out.cell; have zL := OA.out.lt; go_simp; try with_reducible rfl) ?_)
        | (refine wpList_one (by rfl) 3 _ (by rfl) w.heap.size 1 (by rfl) (.int .i64 m.frm) (by have lL := OA.out.cell; have zL := OA.out.lt; go_simp; try with_reducible rfl) ?_)
        | (refine wpList_one (by rfl) 3 _ (by rfl) w.heap.size 2 (by rfl) (.int .i64 m.dst) (by have lL := OA.out.cell; have zL := OA.out.lt; go_simp; try with_reducible rfl) ?_)
        | (refine wpList_one (by rfl) 3 _ (by rfl) w.heap.size 3 (by rfl) (.int .i64 m.sid) (by have lL := OA.out.cell; have zL := OA.out.lt; go_simp; try with_reducible rfl) ?_)
        | (go_at_call 41; (with_reducible refine (C5 _).out.mono ?_); rintro e w5 ⟨rfl, rfl⟩)
        | (go_at_call 41; (with_reducible refine (C6 _).out.mono ?_); rintro e w6 ⟨rfl, rfl⟩)
        | (go_at_call 41; (with_reducible refine (C7 _).out.mono ?_); rintro e w7 ⟨rfl, rfl⟩)
        | fail)
      go_ret
      exact ⟨ret_bool HR.out.symm, BEL.out⟩
    · skip
      cases b6
      · have HR := Lib.hid (show res = false by rw [HE.out, decide_eq_true h0h.out]; simp)
        clear HE
        go_enter Tryz.func12, Tryz.ntmps12
        go_wp2_with (first
          | (refine wpList_one (by rfl) 3 _ (by rfl) w.heap.size 0 (by rfl) (.int .i64 m.kind) (by have lL := OA.out.cell; have zL := OA.out.lt; go_simp; try with_reducible rfl) ?_)
          | (refine wpList_one (by rfl) 3 _ (by rfl) w.heap.size 1 (by rfl) (.int .i64 m.frm) (by have lL := OA.out.cell; have zL := OA.out.lt; go_simp; try with_reducible rfl) ?_)
          | (refine wpList_one (by rfl) 3 _ (by rfl) w.heap.size 2 (by rfl) (.int .i64 m.dst) (by have lL := OA.out.cell; have zL := OA.out.lt; go_simp; try with_reducible rfl) ?_)
          | (refine wpList_one (by rfl) 3 _ (by rfl) w.heap.size 3 (by rfl) (.int .i64 m.sid) (by have lL := OA.out.cell; have zL := OA.out.lt; go_simp; try with_reducible rfl) ?_)
          | (go_at_call 41; (with_reducible refine (C5 _).out.mono ?_); rintro e w5 ⟨rfl, rfl⟩)
          | (go_at_call 41; (with_reducible refine (C6 _).out.mono ?_); rintro e w6 ⟨rfl, rfl⟩)
          | (go_at_call 41; (with_reducible refine (C7 _).out.mono ?_); rintro e w7 ⟨rfl, rfl⟩)
          | fail)
        go_ret
        exact ⟨ret_bool HR.out.symm, BEL.out⟩
      · skip
        by_cases hne : m.frm = m.dst
        · have HR := Lib.hid (show res = false by rw [HE.out, decide_eq_true h0h.out, decide_eq_true hne]; simp)
          have hne2 : (m.frm != m.dst) = false := by simp [hne]
          clear HE hne
          go_enter Tryz.func12, Tryz.ntmps12
          go_wp2_with (first
            | (refine wpList_one (by rfl) 3 _ (by rfl) w.heap.size 0 (by rfl) (.int .i64 m.kind) (by have lL := OA.out.cell; have zL := OA.out.lt; go_simp; try with_reducible rfl) ?_)
            | (refine wpList_one (by rfl) 3 _ (by rfl) w.heap.size 1 (by rfl) (.int .i64 m.frm) (by have lL := OA.out.cell; have zL := OA.out.lt; go_simp; try with_reducible rfl) ?_)
            | (refine wpList_one (by rfl) 3 _ (by rfl) w.heap.size 2 (by rfl) (.int .i64 m.dst) (by have lL := OA.out.cell; have zL := OA.out.lt; go_simp; try with_reducible rfl) ?_)
            | (refine wpList_one (by rfl) 3 _ (by rfl) w.heap.size 3 (by rfl) (.int .i64 m.sid) (by have lL := OA.out.cell; have zL := OA.out.lt; go_simp; try with_reducible rfl) ?_)
            | (go_at_call 41; (with_reducible refine (C5 _).out.mono ?_); rintro e w5 ⟨rfl, rfl⟩)
            | (go_at_call 41; (with_reducible refine (C6 _).out.mono ?_); rintro e w6 ⟨rfl, rfl⟩)
            | (go_at_call 41; (with_reducible refine (C7 _).out.mono ?_); rintro e w7 ⟨rfl, rfl⟩)
            | fail)
          go_ret
          exact ⟨ret_bool HR.out.symm, BEL.out⟩
        · have hne2 : (m.frm != m.dst) = true := by simp [hne]
          have hne3 := Lib.hid (decide_eq_false hne)
          clear hne
          cases b7
          · have HR := Lib.hid (show res = false by rw [HE.out, decide_eq_true h0h.out, hne3.out]; simp)
            clear HE
            go_enter Tryz.func12, Tryz.ntmps12
            go_wp2_with (first
              | (refine wpList_one (by rfl) 3 _ (by rfl) w.heap.size 0 (by rfl) (.int .i64 m.kind) (by have lL := OA.out.cell; have zL := OA.out.lt; go_simp; try with_reducible rfl) ?_)
              | (refine wpList_one (by rfl) 3 _ (by rfl) w.heap.size 1 (by rfl) (.int .i64 m.frm) (by have lL := OA.out.cell; have zL := OA.out.lt; go_simp; try with_reducible rfl) ?_)
              | (refine wpList_one (by rfl) 3 _ (by rfl) w.heap.size 2 (by rfl) (.int .i64 m.dst) (by have lL := OA.out.cell; have zL := OA.out.lt; go_simp; try with_reducible rfl) ?_)
              | (refine wpList_one (by rfl) 3 _ (by rfl) w.heap.size 3 (by rfl) (.int .i64 m.sid) (by have lL := OA.out.cell; have zL := OA.out.lt; go_simp; try with_reducible rfl) ?_)
              | (go_at_call 41; (with_reducible refine (C5 _).out.mono ?_); rintro e w5 ⟨rfl, rfl⟩)
              | (go_at_call 41; (with_reducible refine (C6 _).out.mono ?_); rintro e w6 ⟨rfl, rfl⟩)
              | (go_at_call 41; (with_reducible refine (C7 _).out.mono ?_); rintro e w7 ⟨rfl, rfl⟩)
              | fail)
            go_ret
            exact ⟨ret_bool HR.out.symm, BEL.out⟩
          · skip
            cases b1
            · have HR := Lib.hid (show res = false by rw [HE.out, decide_eq_true h0h.out, hne3.out]; simp)
              clear HE
              go_enter Tryz.func12, Tryz.ntmps12
              go_wp2_with (first
                | (refine wpList_one (by rfl) 3 _ (by rfl) w.heap.size 0 (by rfl) (.int .i64 m.kind) (by have lL := OA.out.cell; have zL := OA.out.lt; go_simp; try with_reducible rfl) ?_)
                | (refine wpList_one (by rfl) 3 _ (by rfl) w.heap.size 1 (by rfl) (.int .i64 m.frm) (by have lL := OA.out.cell; have zL := OA.out.lt; go_simp; try with_reducible rfl) ?_)
                | (refine wpList_one (by rfl) 3 _ (by rfl) w.heap.size 2 (by rfl) (.int .i64 m.dst) (by have lL := OA.out.cell; have zL := OA.out.lt; go_simp; try with_reducible rfl) ?_)
                | (refine wpList_one (by rfl) 3 _ (by rfl) w.heap.size 3 (by rfl) (.int .i64 m.sid) (by have lL := OA.out.cell; have zL := OA.out.lt; go_simp; try with_reducible rfl) ?_)
                | (go_at_call 41; (with_reducible refine (C5 _).out.mono ?_); rintro e w5 ⟨rfl, rfl⟩)
                | (go_at_call 41; (with_reducible refine (C6 _).out.mono ?_); rintro e w6 ⟨rfl, rfl⟩)
                | (go_at_call 41; (with_reducible refine (C7 _).out.mono ?_); rintro e w7 ⟨rfl, rfl⟩)
                | (refine wpList_load_mid_g (by rfl) 47 _ (by rfl) w.heap.size 0 (by rfl) (mgA m (.slice of_ m.f.kids.length cf) (.slice ok_ m.k.l.length ck) (.slice oh m.has.length ch) (.slice ol m.l.length cl)).toList _ (by exact OA.out.part 0 _ (by rfl)) Tryz.underlying47 (by rfl) (by kernel_rfl) ?_)
                | fail)
              refine (CB _).out.mono ?_
              rintro e wy ⟨rfl, hb⟩
              replace OA := Lib.hid (OA.out.later hb)
              replace BEL := Lib.hid (BEL.out.trans (Below.mono hb BEL.out.size))
              have lA := OA.out.cell
              have zA := OA.out.lt
              clear hb
              go_wp2_with (first
                | (go_at_call 43; refine (CH _ (HM.out.lh.later BEL.out)).out.mono ?_; rintro e wy ⟨rfl, hb⟩; clear lA zA; replace OA := Lib.hid (OA.out.later hb); replace BEL := Lib.hid (BEL.out.trans (Below.mono hb BEL.out.size)); have lA := OA.out.cell; have zA := OA.out.lt; clear hb)
                | (go_at_call 44; refine (CP _ (HM.out.lf.later BEL.out (Nat.le_refl _))).out.mono ?_; rintro e wy ⟨rfl, hb⟩; clear lA zA; replace OA := Lib.hid (OA.out.later hb); replace BEL := Lib.hid (BEL.out.trans (Below.mono hb BEL.out.size)); have lA := OA.out.cell; have zA := OA.out.lt; clear hb)
                | (go_at_call 45; refine (CK _ (HM.out.lk.later BEL.out (Nat.le_refl _))).out.mono ?_; rintro e wy ⟨rfl, hb⟩; clear lA zA; replace OA := Lib.hid (OA.out.later hb); replace BEL := Lib.hid (BEL.out.trans (Below.mono hb BEL.out.size)); have lA := OA.out.cell; have zA := OA.out.lt; clear hb)
                | fail)
              go_ret
              exact ⟨ret_bool HR.out.symm, BEL.out⟩
            · skip
              cases b2
              · have HR := Lib.hid (show res = false by rw [HE.out, decide_eq_true h0h.out, hne3.out]; simp)
                clear HE
                go_enter Tryz.func12, Tryz.ntmps12
                go_wp2_with (first
                  | (refine wpList_one (by rfl) 3 _ (by rfl) w.heap.size 0 (by rfl) (.int .i64 m.kind) (by have lL := OA.out.cell; have zL := OA.out.lt; go_simp; try with_reducible rfl) ?_)
                  | (refine wpList_one (by rfl) 3 _ (by rfl) w.heap.size 1 (by rfl) (.int .i64 m.frm) (by have lL := OA.out.cell; have zL := OA.out.lt; go_simp; try with_reducible rfl) ?_)
                  | (refine wpList_one (by rfl) 3 _ (by rfl) w.heap.size 2 (by rfl) (.int .i64 m.dst) (by have lL := OA.out.cell; have zL := OA.out.lt; go_simp; try with_reducible rfl) ?_)
                  | (refine wpList_one (by rfl) 3 _ (by rfl) w.heap.size 3 (by rfl) (.int .i64 m.sid) (by have lL := OA.out.cell; have zL := OA.out.lt; go_simp; try with_reducible rfl) ?_)
                  | (go_at_call 41; (with_reducible refine (C5 _).out.mono ?_); rintro e w5 ⟨rfl, rfl⟩)
                  | (go_at_call 41; (with_reducible refine (C6 _).out.mono ?_); rintro e w6 ⟨rfl, rfl⟩)
                  | (go_at_call 41; (with_reducible refine (C7 _).out.mono ?_); rintro e w7 ⟨rfl, rfl⟩)
                  | (refine wpList_load_mid_g (by rfl) 47 _ (by rfl) w.heap.size 0 (by rfl) (mgA m (.slice of_ m.f.kids.length cf) (.slice ok_ m.k.l.length ck) (.slice oh m.has.length ch) (.slice ol m.l.length cl)).toList _ (by exact OA.out.part 0 _ (by rfl)) Tryz.underlying47 (by rfl) (by kernel_rfl) ?_)
                  | fail)
                refine (CB _).out.mono ?_
                rintro e wy ⟨rfl, hb⟩
                replace OA := Lib.hid (OA.out.later hb)
                replace BEL := Lib.hid (BEL.out.trans (Below.mono hb BEL.out.size))
                have lA := OA.out.cell
                have zA := OA.out.lt
                clear hb
                go_wp2_with (first
                  | (go_at_call 43; refine (CH _ (HM.out.lh.later BEL.out)).out.mono ?_; rintro e wy ⟨rfl, hb⟩; clear lA zA; replace OA := Lib.hid (OA.out.later hb); replace BEL := Lib.hid (BEL.out.trans (Below.mono hb BEL.out.size)); have lA := OA.out.cell; have zA := OA.out.lt; clear hb)
                  | (go_at_call 44; refine (CP _ (HM.out.lf.later BEL.out (Nat.le_refl _))).out.mono ?_; rintro e wy ⟨rfl, hb⟩; clear lA zA; replace OA := Lib.hid (OA.out.later hb); replace BEL := Lib.hid (BEL.out.trans (Below.mono hb BEL.out.size)); have lA := OA.out.cell; have zA := OA.out.lt; clear hb)
                  | (go_at_call 45; refine (CK _ (HM.out.lk.later BEL.out (Nat.le_refl _))).out.mono ?_; rintro e wy ⟨rfl, hb⟩; clear lA zA; replace OA := Lib.hid (OA.out.later hb); replace BEL := Lib.hid (BEL.out.trans (Below.mono hb BEL.out.size)); have lA := OA.out.cell; have zA := OA.out.lt; clear hb)
                  | fail)
                go_ret
                exact ⟨ret_bool HR.out.symm, BEL.out⟩
              · skip
                cases b3
                · have HR := Lib.hid (show res = false by rw [HE.out, decide_eq_true h0h.out, hne3.out]; simp)
                  clear HE
                  go_enter Tryz.func12, Tryz.ntmps12
                  go_wp2_with (first
                    | (refine wpList_one (by rfl) 3 _ (by rfl) w.heap.size 0 (by rfl) (.int .i64 m.kind) (by have lL := OA.out.cell; have zL := OA.out.lt; go_simp; try with_reducible rfl) ?_)
                    | (refine wpList_one (by rfl) 3 _ (by rfl) w.heap.size 1 (by rfl) (.int .i64 m.frm) (by have lL := OA.out.cell; have zL := OA.out.lt; go_simp; try with_reducible rfl) ?_)
                    | (refine wpList_one (by rfl) 3 _ (by rfl) w.heap.size 2 (by rfl) (.int .i64 m.dst) (by have lL := OA.out.cell; have zL := OA.out.lt; go_simp; try with_reducible rfl) ?_)
                    | (refine wpList_one (by rfl) 3 _ (by rfl) w.heap.size 3 (by rfl) (.int .i64 m.sid) (by have lL := OA.out.cell; have zL := OA.out.lt; go_simp; try with_reducible rfl) ?_)
                    | (go_at_call 41; (with_reducible refine (C5 _).out.mono ?_); rintro e w5 ⟨rfl, rfl⟩)
                    | (go_at_call 41; (with_reducible refine (C6 _).out.mono ?_); rintro e w6 ⟨rfl, rfl⟩)
                    | (go_at_call 41; (with_reducible refine (C7 _).out.mono ?_); rintro e w7 ⟨rfl, rfl⟩)
                    | (refine wpList_load_mid_g (by rfl) 47 _ (by rfl) w.heap.size 0 (by rfl) (mgA m (.slice of_ m.f.kids.length cf) (.slice ok_ m.k.l.length ck) (.slice oh m.has.length ch) (.slice ol m.l.length cl)).toList _ (by exact OA.out.part 0 _ (by rfl)) Tryz.underlying47 (by rfl) (by kernel_rfl) ?_)
                    | fail)
                  refine (CB _).out.mono ?_
                  rintro e wy ⟨rfl, hb⟩
                  replace OA := Lib.hid (OA.out.later hb)
                  replace BEL := Lib.hid (BEL.out.trans (Below.mono hb BEL.out.size))
                  have lA := OA.out.cell
                  have zA := OA.out.lt
                  clear hb
                  go_wp2_with (first
                    | (go_at_call 43; refine (CH _ (HM.out.lh.later BEL.out)).out.mono ?_; rintro e wy ⟨rfl, hb⟩; clear lA zA; replace OA := Lib.hid (OA.out.later hb); replace BEL := Lib.hid (BEL.out.trans (Below.mono hb BEL.out.size)); have lA := OA.out.cell; have zA := OA.out.lt; clear hb)
                    | (go_at_call 44; refine (CP _ (HM.out.lf.later BEL.out (Nat.le_refl _))).out.mono ?_; rintro e wy ⟨rfl, hb⟩; clear lA zA; replace OA := Lib.hid (OA.out.later hb); replace BEL := Lib.hid (BEL.out.trans (Below.mono hb BEL.out.size)); have lA := OA.out.cell; have zA := OA.out.lt; clear hb)
                    | (go_at_call 45; refine (CK _ (HM.out.lk.later BEL.out (Nat.le_refl _))).out.mono ?_; rintro e wy ⟨rfl, hb⟩; clear lA zA; replace OA := Lib.hid (OA.out.later hb); replace BEL := Lib.hid (BEL.out.trans (Below.mono hb BEL.out.size)); have lA := OA.out.cell; have zA := OA.out.lt; clear hb)
                    | fail)
                  go_ret
                  exact ⟨ret_bool HR.out.symm, BEL.out⟩
                · skip
                  cases b4
                  · have HR := Lib.hid (show res = false by rw [HE.out, decide_eq_true h0h.out, hne3.out]; simp)
                    clear HE
                    go_enter Tryz.func12, Tryz.ntmps12
                    go_wp2_with (first
                      | (refine wpList_one (by rfl) 3 _ (by rfl) w.heap.size 0 (by rfl) (.int .i64 m.kind) (by have lL := OA.out.cell; have zL := OA.out.lt; go_simp; try with_reducible rfl) ?_)
                      | (refine wpList_one (by rfl) 3 _ (by rfl) w.heap.size 1 (by rfl) (.int .i64 m.frm) (by have lL := OA.out.cell; have zL := OA.out.lt; go_simp; try with_reducible rfl) ?_)
                      | (refine wpList_one (by rfl) 3 _ (by rfl) w.heap.size 2 (by rfl) (.int .i64 m.dst) (by have lL := OA.out.cell; have zL := OA.out.lt; go_simp; try with_reducible rfl) ?_)
                      | (refine wpList_one (by rfl) 3 _ (by rfl) w.heap.size 3 (by rfl) (.int .i64 m.sid) (by have lL := OA.out.cell; have zL := OA.out.lt; go_simp; try with_reducible rfl) ?_)
                      | (go_at_call 41; (with_reducible refine (C5 _).out.mono ?_); rintro e w5 ⟨rfl, rfl⟩)
                      | (go_at_call 41; (with_reducible refine (C6 _).out.mono ?_); rintro e w6 ⟨rfl, rfl⟩)
                      | (go_at_call 41; (with_reducible refine (C7 _).out.mono ?_); rintro e w7 ⟨rfl, rfl⟩)
                      | (refine wpList_load_mid_g (by rfl) 47 _ (by rfl) w.heap.size 0 (by rfl) (mgA m (.slice of_ m.f.kids.length cf) (.slice ok_ m.k.l.length ck) (.slice oh m.has.length ch) (.slice ol m.l.length cl)).toList _ (by exact OA.out.part 0 _ (by rfl)) Tryz.underlying47 (by rfl) (by kernel_rfl) ?_)
                      | fail)
                    refine (CB _).out.mono ?_
                    rintro e wy ⟨rfl, hb⟩
                    replace OA := Lib.hid (OA.out.later hb)
                    replace BEL := Lib.hid (BEL.out.trans (Below.mono hb BEL.out.size))
                    have lA := OA.out.cell
                    have zA := OA.out.lt
                    clear hb
                    go_wp2_with (first
                      | (go_at_call 43; refine (CH _ (HM.out.lh.later BEL.out)).out.mono ?_; rintro e wy ⟨rfl, hb⟩; clear lA zA; replace OA := Lib.hid (OA.out.later hb); replace BEL := Lib.hid (BEL.out.trans (Below.mono hb BEL.out.size)); have lA := OA.out.cell; have zA := OA.out.lt; clear hb)
                      | (go_at_call 44; refine (CP _ (HM.out.lf.later BEL.out (Nat.le_refl _))).out.mono ?_; rintro e wy ⟨rfl, hb⟩; clear lA zA; replace OA := Lib.hid (OA.out.later hb); replace BEL := Lib.hid (BEL.out.trans (Below.mono hb BEL.out.size)); have lA := OA.out.cell; have zA := OA.out.lt; clear hb)
                      | (go_at_call 45; refine (CK _ (HM.out.lk.later BEL.out (Nat.le_refl _))).out.mono ?_; rintro e wy ⟨rfl, hb⟩; clear lA zA; replace OA := Lib.hid (OA.out.later hb); replace BEL := Lib.hid (BEL.out.trans (Below.mono hb BEL.out.size)); have lA := OA.out.cell; have zA := OA.out.lt; clear hb)
                      | fail)
                    go_ret
                    exact ⟨ret_bool HR.out.symm, BEL.out⟩
                  · skip
                    have HR := Lib.hid (show res = true by rw [HE.out, decide_eq_true h0h.out, hne3.out]; simp)
                    clear HE
                    go_enter Tryz.func12, Tryz.ntmps12
                    go_wp2_with (first
                      | (refine wpList_one (by rfl) 3 _ (by rfl) w.heap.size 0 (by rfl) (.int .i64 m.kind) (by have lL := OA.out.cell; have zL := OA.out.lt; go_simp; try with_reducible rfl) ?_)
                      | (refine wpList_one (by rfl) 3 _ (by rfl) w.heap.size 1 (by rfl) (.int .i64 m.frm) (by have lL := OA.out.cell; have zL := OA.out.lt; go_simp; try with_reducible rfl) ?_)
                      | (refine wpList_one (by rfl) 3 _ (by rfl) w.heap.size 2 (by rfl) (.int .i64 m.dst) (by have lL := OA.out.cell; have zL := OA.out.lt; go_simp; try with_reducible rfl) ?_)
                      | (refine wpList_one (by rfl) 3 _ (by rfl) w.heap.size 3 (by rfl) (.int .i64 m.sid) (by have lL := OA.out.cell; have zL := OA.out.lt; go_simp; try with_reducible rfl) ?_)
                      | (go_at_call 41; (with_reducible refine (C5 _).out.mono ?_); rintro e w5 ⟨rfl, rfl⟩)
                      | (go_at_call 41; (with_reducible refine (C6 _).out.mono ?_); rintro e w6 ⟨rfl, rfl⟩)
                      | (go_at_call 41; (with_reducible refine (C7 _).out.mono ?_); rintro e w7 ⟨rfl, rfl⟩)
                      | (refine wpList_load_mid_g (by rfl) 47 _ (by rfl) w.heap.size 0 (by rfl) (mgA m (.slice of_ m.f.kids.length cf) (.slice ok_ m.k.l.length ck) (.slice oh m.has.length ch) (.slice ol m.l.length cl)).toList _ (by exact OA.out.part 0 _ (by rfl)) Tryz.underlying47 (by rfl) (by kernel_rfl) ?_)
                      | fail)
                    refine (CB _).out.mono ?_
                    rintro e wy ⟨rfl, hb⟩
                    replace OA := Lib.hid (OA.out.later hb)
                    replace BEL := Lib.hid (BEL.out.trans (Below.mono hb BEL.out.size))
                    have lA := OA.out.cell
                    have zA := OA.out.lt
                    clear hb
                    go_wp2_with (first
                      | (go_at_call 43; refine (CH _ (HM.out.lh.later BEL.out)).out.mono ?_; rintro e wy ⟨rfl, hb⟩; clear lA zA; replace OA := Lib.hid (OA.out.later hb); replace BEL := Lib.hid (BEL.out.trans (Below.mono hb BEL.out.size)); have lA := OA.out.cell; have zA := OA.out.lt; clear hb)
                      | (go_at_call 44; refine (CP _ (HM.out.lf.later BEL.out (Nat.le_refl _))).out.mono ?_; rintro e wy ⟨rfl, hb⟩; clear lA zA; replace OA := Lib.hid (OA.out.later hb); replace BEL := Lib.hid (BEL.out.trans (Below.mono hb BEL.out.size)); have lA := OA.out.cell; have zA := OA.out.lt; clear hb)
                      | (go_at_call 45; refine (CK _ (HM.out.lk.later BEL.out (Nat.le_refl _))).out.mono ?_; rintro e wy ⟨rfl, hb⟩; clear lA zA; replace OA := Lib.hid (OA.out.later hb); replace BEL := Lib.hid (BEL.out.trans (Below.mono hb BEL.out.size)); have lA := OA.out.cell; have zA := OA.out.lt; clear hb)
                      | fail)
                    go_ret
                    exact ⟨ret_bool HR.out.symm, BEL.out⟩
  · have hkb : (m.kind == 1) = false := by simp [h0]
    have HR := Lib.hid (show res = false by rw [HE.out, decide_eq_false h0]; simp)
    clear h0
    clear HE
    go_enter Tryz.func12, Tryz.ntmps12
    go_wp2_with (first
      | (refine wpList_one (by rfl) 3 _ (by rfl) w.heap.size 0 (by rfl) (.int .i64 m.kind) (by have lL := OA.out.cell; have zL := OA.out.lt; go_simp; try with_reducible rfl) ?_)
      | (refine wpList_one (by rfl) 3 _ (by rfl) w.heap.size 1 (by rfl) (.int .i64 m.frm) (by have lL := OA.out.cell; have zL := OA.out.lt; go_simp; try with_reducible rfl) ?_)
      | (refine wpList_one (by rfl) 3 _ (by rfl) w.heap.size 2 (by rfl) (.int .i64 m.dst) (by have lL := OA.out.cell; have zL := OA.out.lt; go_simp; try with_reducible rfl) ?_)
      | (refine wpList_one (by rfl) 3 _ (by rfl) w.heap.size 3 (by rfl) (.int .i64 m.sid) (by have lL := OA.out.cell; have zL := OA.out.lt; go_simp; try with_reducible rfl) ?_)
      | (go_at_call 41; (with_reducible refine (C5 _).out.mono ?_); rintro e w5 ⟨rfl, rfl⟩)
      | (go_at_call 41; (with_reducible refine (C6 _).out.mono ?_); rintro e w6 ⟨rfl, rfl⟩)
      | (go_at_call 41; (with_reducible refine (C7 _).out.mono ?_); rintro e w7 ⟨rfl, rfl⟩)
      | fail)
    go_ret
    exact ⟨ret_bool HR.out.symm, BEL.out⟩
end Go.Proofs.YthbjgfennclidaaGreat
