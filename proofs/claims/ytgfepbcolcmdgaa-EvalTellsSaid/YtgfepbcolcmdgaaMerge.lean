/- merge: the code's walk. -/
import Derived.Test.YtgfepbcolcmdgaaMergeM
namespace Go.Proofs.Ytgfepbcolcmdgaa
open Go.RowKit

theorem Sof_new {w : World} {base : Nat} {R : Nat → Rw} (h : Stock w base R) (hb : base ≤ w.heap.size) (o : Obj) : Sof (w.alloc o) base R w.heap.size :=
  ⟨hb, by simp, fun i e => by have := ((h.row i).1.lt _ e.symm).2; omega⟩

attribute [local go_sem ↓] Go.wp_at_zero Go.wp_at_succ
set_option maxRecDepth 100000 in
set_option maxHeartbeats 8000000 in
theorem merge_calls (op no ru : Int) (t : ByteArray) (n : Int) (x y : Nat) (ks : List Pr) (B : Nat) (v : Value) (w : World) (hB : B ≤ w.heap.size) (hL : Lies 5 pc (fun b => B ≤ b ∧ b < w.heap.size) w (.node op t n x y ks) v) (hsz : Pr.sizes ks ≤ 5000) :
    Calls Try.prog 28 #[.agg #[.int .i64 op, .string t, .int .i64 n, .complex .f64 x y, v], .int .i64 no, .int .i64 ru] w (MergeOut (Pr.mergeC op no ru t n x y [] ks) B w) := by
  have I0 := Lib.hid (MInv.start hB hL)
  obtain ⟨oa, cap, b, o, V, rfl, ht, hl, hc, hn, hcell, hrec⟩ := lies_slice hL
  simp only [Pr.kids_node, Pr.text_node, Pr.op_node, Pr.n_node, Pr.x_node, Pr.y_node] at *
  unfold maxLen at hc
  have h60 := Pr.len_le_sizes ks
  have HT := Lib.hid ht
  clear hL hcell hrec hn ht
  generalize hlen : ks.length = len at *
  have HLEN := Lib.hid hlen
  clear hlen
  go_enter Try.func28, Try.ntmps28
  go_wp2_with fail
  go_loopw [7, 13] (fun lv iv wr => MRel op no ru t n x y ks len B #[.int .i64 op, .string t, .int .i64 n, .complex .f64 x y, .slice oa len cap] #[.int .i64 0, .string ⟨#[]⟩, .int .i64 0, .complex .f64 0 0, .slice none 0 0] (.slice oa len cap) w lv iv wr) (fun _ iv _ => len - (intOf iv).toNat)
  case atStart => exact ⟨0, _, Nat.zero_le _, rfl, rfl, by rw [List.drop_zero]; rfl, Nat.zero_le _, I0⟩
  case round =>
    clear I0
    obtain ⟨j, R, hj, rfl, rfl, HM, HS, HP⟩ := hrel
    have zw := HP.out.bel.size
    by_cases hlt : j < len
    · obtain ⟨a, ha⟩ : ∃ a, ks[j]? = some a := ⟨_, List.getElem?_eq_getElem (by rw [HLEN.out]; exact hlt)⟩
      obtain ⟨_, _, b, o, V, e1, _, hl1, hc1, hn, hcell, hrec⟩ := lies_slice HP.out.kl
      simp only [Pr.kids_node, HLEN.out] at e1 hl1 hn hcell hrec
      cases e1
      obtain ⟨rfl, hS⟩ := hn (by omega)
      obtain ⟨oq, cq, hV⟩ := lies_val (hrec j a ha)
      obtain ⟨c0, c1, c2, c3, c4⟩ := pc_cells (w := wr) (fun i u hu => hcell j a ha i u hu)
      have La := hrec j a ha
      rw [hV] at c4 La
      have zb := hS.2.1
      have hlr : (R 0).l.length ≤ 5000 ∧ a.kids.length + (R 0).l.length ≤ 5000 ∧ (R 0).l.length + 1 ≤ 5000 := by
        have e1 := HS.out
        have e2 := Pr.sizes_take ha
        have e3 := Pr.sizes_take_le ks (j + 1)
        have e4 := Pr.size_kids a
        have e5 := Pr.len_le_sizes a.kids
        omega
      have hst : (R 0).l.length + a.size ≤ Pr.sizes (ks.take (j + 1)) := by
        rw [Pr.sizes_take ha]; have := HS.out; omega
      have HST := Lib.hid hst
      have HA := Lib.hid ha
      have HLa := Lib.hid La
      have PX := Lib.hid (HP.out.alloc (.cells #[.int .i64 a.op, .string a.text, .int .i64 a.n, .complex .f64 a.x a.y, .slice oq a.kids.length cq] 33))
      have HLx := Lib.hid (sof_lies ((Below.refl _ _).alloc (Nat.le_refl _) (.cells #[.int .i64 a.op, .string a.text, .int .i64 a.n, .complex .f64 a.x a.y, .slice oq a.kids.length cq] 33)) La)
      have l1 := HP.out.o1.cell
      have z1 := HP.out.o1.lt
      clear hcell hrec hn La ha hS hV hst
      by_cases h1 : a.op = ru
      · subst h1
        have EQ := Lib.hid (HM.out.trans (merge_ru HA.out rfl))
        have l2 := HP.out.o2.cell
        have f2 := HP.out.o2.free
        have z2 := HP.out.o2.lt
        go_wp2_with fail
        have key := And.intro (st5_own HP.out.o2 (.int .i64 a.op) (.string a.text) (.int .i64 a.n) (.complex .f64 a.x a.y) ((.slice oq a.kids.length cq))) (And.intro (st5_below (b := w.heap.size + 1) HP.out.bel (by omega) (.int .i64 a.op) (.string a.text) (.int .i64 a.n) (.complex .f64 a.x a.y) ((.slice oq a.kids.length cq))) (Lib.hid (s3_lies (B := B) (w := w) (X := wr) (.int .i64 a.op) (.string a.text) (.int .i64 a.n) (.complex .f64 a.x a.y) ((.slice oq a.kids.length cq)) (show Lies 5 pc (S3 B w wr) wr a (.slice oq a.kids.length cq) from (HLa.out.mono (fun _ _ _ => rfl) HP.out.s3)))))
        clear l1 l2 f2 z1 z2
        replace key := And.intro (key.1.alloc (.cells #[.int .i64 a.op, .string a.text, .int .i64 a.n, .complex .f64 a.x a.y, .slice oq a.kids.length cq] 33)) (And.intro (key.2.1.alloc key.2.1.size (.cells #[.int .i64 a.op, .string a.text, .int .i64 a.n, .complex .f64 a.x a.y, .slice oq a.kids.length cq] 33)) (Lib.hid (lies_al (.cells #[.int .i64 a.op, .string a.text, .int .i64 a.n, .complex .f64 a.x a.y, .slice oq a.kids.length cq] 33) key.2.2.out)))
        unfold st5 at key
        revert key
        generalize World.alloc (World.setCell (World.setCell (World.setCell (World.setCell (World.setCell _ _ _) _ _) _ _) _ _) _ _) _ = WW
        rintro ⟨of, bf, HE⟩
        have lf := of.cell
        refine bodyPost_ret (v := .agg #[.int .i64 a.op, .string a.text, .int .i64 a.n, .complex .f64 a.x a.y, (.slice oq a.kids.length cq)]) (by simp [results, Try.results28, go_sem, lf]) rfl (mergeOut_of EQ.out ⟨(.slice oq a.kids.length cq), rfl, HE.out, bf⟩)
      have g1 : (a.op == ru) = false := by rw [beq_eq_false_iff_ne]; exact h1
      by_cases h2 : a.op = no
      · subst h2
        go_wp2_with fail
        go_roundw
        case rel => exact ⟨j + 1, R, by omega, by go_num, rfl, HM.out.trans (merge_no HA.out h1 rfl), Nat.le_trans (Nat.le_add_right _ _) HST.out, PX⟩
        case measure => simp [intOf]; omega
      have g2 : (a.op == no) = false := by rw [beq_eq_false_iff_ne]; exact h2
      by_cases h3 : a.op = op
      · subst h3
        obtain ⟨_, cr, _, er, _⟩ := PX.out.st.slice 0
        have CC := Lib.hid (add_calls B R 0 a.kids oq _ cq cr _ PX.out.st (by have := PX.out.bel.size; omega) (lies_kidsS HLx.out) er (by omega))
        rw [er]
        clear er
        go_wp2_with (go_at_call 39; refine CC.out.mono ?_; rintro e w2 ⟨r, rfl, hl2, hst2, hgr2, hrb2⟩)
        go_roundw
        case rel => exact ⟨j + 1, upd R 0 r, by omega, by go_num, by rw [upd_same], by unfold Hid; rw [upd_same, hl2]; exact HM.out.trans (merge_op HA.out h1 h2 rfl), by
          unfold Hid
          rw [upd_same, hl2]
          have e1 := addC_len (R 0).l a.kids
          have e2 := Pr.len_le_sizes a.kids
          have e3 := Pr.size_kids a
          have e4 := HST.out
          have e5 := Pr.size_pos a
          try simp at e1
          omega, Lib.hid (PX.out.add hst2 hgr2 hrb2)⟩
        case measure => simp [intOf]; omega
      · have g3 : (a.op == op) = false := by rw [beq_eq_false_iff_ne]; exact h3
        obtain ⟨_, cr, _, er, _⟩ := PX.out.st.slice 0
        have PY := Lib.hid (PX.out.alloc (.cells #[.int .i64 a.op, .string a.text, .int .i64 a.n, .complex .f64 a.x a.y, .slice oq a.kids.length cq] 33))
        have CC := Lib.hid (add_calls B R 0 [a] (some ⟨wr.heap.size + 1, 0, none⟩) _ 1 cr _ PY.out.st (by have := PY.out.bel.size; omega) (lies_one_new (Own.newAt _ _ _ (by simp)) (by simpa using Sof_new PX.out.st (by have := PX.out.bel.size; omega) (.cells #[.int .i64 a.op, .string a.text, .int .i64 a.n, .complex .f64 a.x a.y, .slice oq a.kids.length cq] 33)) (sof_lies ((Below.refl _ _).alloc (Nat.le_refl _) _) HLx.out)) er (by simp; omega))
        rw [er]
        clear er
        go_wp2_with (go_at_call 39; refine CC.out.mono ?_; rintro e w2 ⟨r, rfl, hl2, hst2, hgr2, hrb2⟩)
        go_roundw
        case rel => exact ⟨j + 1, upd R 0 r, by omega, by go_num, by rw [upd_same], by unfold Hid; rw [upd_same, hl2]; exact HM.out.trans (merge_one HA.out h1 h2 h3), by
          unfold Hid
          rw [upd_same, hl2]
          have e1 := addC_len (R 0).l [a]
          have e2 := Pr.len_le_sizes a.kids
          have e3 := Pr.size_kids a
          have e4 := HST.out
          have e5 := Pr.size_pos a
          try simp at e1
          omega, Lib.hid (PY.out.add hst2 hgr2 hrb2)⟩
        case measure => simp [intOf]; omega
    · have e : j = len := by omega
      subst e
      have hm := HM.out
      rw [show ks.drop j = [] from List.drop_of_length_le (by rw [HLEN.out]; omega)] at hm
      have hlr : (R 0).l.length ≤ 5000 := by
        have e1 := HS.out
        have e3 := Pr.sizes_take_le ks j
        omega
      obtain ⟨or, cr, gr, er, hr1, hr2, hr3⟩ := HP.out.st.slice 0
      have AT := fun (k : Nat) (p : Pr) (hp : (R 0).l[k]? = some p) (hg : or = some ⟨gr, 0, none⟩) => HP.out.st.at 0 (g := gr) (n := (R 0).l.length) (cap := cr) (k := k) (p := p) (by rw [er, hg]) hp
      have RW := Lib.hid (HP.out.row0 op t n x y HT.out)
      rw [er] at RW ⊢
      have ER := Lib.hid er
      unfold maxLen at hr2
      clear er
      have h3 : ((R 0).l.length = 0 ∧ Pr.mergeC op no ru t n x y [] ks = Pr.leaf no) ∨ ((R 0).l.length = 1 ∧ ∃ d, (R 0).l[0]? = some d ∧ Pr.mergeC op no ru t n x y [] ks = d) ∨ (2 ≤ (R 0).l.length ∧ Pr.mergeC op no ru t n x y [] ks = .node op t n x y (R 0).l) := by
        rw [hm]
        rcases (R 0).l with _ | ⟨d, _ | ⟨d2, tl⟩⟩
        · exact .inl ⟨rfl, by simp [Pr.mergeC]⟩
        · exact .inr (.inl ⟨rfl, d, rfl, by simp [Pr.mergeC]⟩)
        · exact .inr (.inr ⟨by simp, by simp [Pr.mergeC]⟩)
      clear hm HM
      generalize hnr : (R 0).l.length = nr at *
      have l1 := HP.out.o1.cell
      have f1 := HP.out.o1.free
      have l2 := HP.out.o2.cell
      have f2 := HP.out.o2.free
      have z1 := HP.out.o1.lt
      have z2 := HP.out.o2.lt
      rcases h3 with ⟨rfl, EQ⟩ | ⟨rfl, d, hd, EQ⟩ | ⟨hz, EQ⟩
      · have EQ := Lib.hid EQ
        clear AT hr3 RW
        go_wp2_with fail
        have key := And.intro (st5_own HP.out.o2 (.int .i64 no) (.string ⟨#[]⟩) (.int .i64 0) (.complex .f64 0 0) (.slice none 0 0)) (And.intro (st5_below (b := w.heap.size + 1) HP.out.bel (by omega) (.int .i64 no) (.string ⟨#[]⟩) (.int .i64 0) (.complex .f64 0 0) (.slice none 0 0)) (Lib.hid (s3_lies (B := B) (w := w) (X := wr) (.int .i64 no) (.string ⟨#[]⟩) (.int .i64 0) (.complex .f64 0 0) (.slice none 0 0) (show Lies 5 pc (S3 B w wr) wr (Pr.leaf no) (.slice none 0 0) from lies_nil (by decide)))))
        clear l1 f1 l2 f2 z1 z2
        unfold st5 at key
        revert key
        generalize World.setCell (World.setCell (World.setCell (World.setCell (World.setCell _ _ _) _ _) _ _) _ _) _ _ = WW
        rintro ⟨of, bf, HE⟩
        have lf := of.cell
        refine bodyPost_ret (v := .agg #[.int .i64 no, .string ⟨#[]⟩, .int .i64 0, .complex .f64 0 0, .slice none 0 0]) (by simp [results, Try.results28, go_sem, lf]) rfl (mergeOut_of EQ.out ⟨(.slice none 0 0), rfl, HE.out, bf⟩)
      · have EQ := Lib.hid EQ
        obtain ⟨rfl, hg1, hg2⟩ := hr3 (by omega)
        obtain ⟨⟨c0, c1, c2, c3, c4⟩, Ld⟩ := AT 0 d hd rfl
        obtain ⟨od, cd, hV⟩ := lies_val Ld
        rw [hV] at c4 Ld
        simp only [Nat.zero_mul, Nat.zero_add] at c0 c1 c2 c3 c4
        have LD := Lib.hid (Ld.mono (fun _ _ _ => rfl) HP.out.s3)
        clear hd AT hr3 RW Ld hV
        go_wp2_with fail
        have key := And.intro (st5_own HP.out.o2 (.int .i64 d.op) (.string d.text) (.int .i64 d.n) (.complex .f64 d.x d.y) ((.slice od d.kids.length cd))) (And.intro (st5_below (b := w.heap.size + 1) HP.out.bel (by omega) (.int .i64 d.op) (.string d.text) (.int .i64 d.n) (.complex .f64 d.x d.y) ((.slice od d.kids.length cd))) (Lib.hid (s3_lies (B := B) (w := w) (X := wr) (.int .i64 d.op) (.string d.text) (.int .i64 d.n) (.complex .f64 d.x d.y) ((.slice od d.kids.length cd)) (show Lies 5 pc (S3 B w wr) wr d (.slice od d.kids.length cd) from LD.out))))
        clear l1 f1 l2 f2 z1 z2 c0 c1 c2 c3 c4
        unfold st5 at key
        revert key
        generalize World.setCell (World.setCell (World.setCell (World.setCell (World.setCell _ _ _) _ _) _ _) _ _) _ _ = WW
        rintro ⟨of, bf, HE⟩
        have lf := of.cell
        refine bodyPost_ret (v := .agg #[.int .i64 d.op, .string d.text, .int .i64 d.n, .complex .f64 d.x d.y, (.slice od d.kids.length cd)]) (by simp [results, Try.results28, go_sem, lf]) rfl (mergeOut_of EQ.out ⟨(.slice od d.kids.length cd), rfl, HE.out, bf⟩)
      · have EQ := Lib.hid EQ
        have g0 : ((nr : Int) == 0) = false := by rw [beq_eq_false_iff_ne]; omega
        have g1 : ((nr : Int) == 1) = false := by rw [beq_eq_false_iff_ne]; omega
        have RX := Lib.hid (s3_set 4 (.slice or nr cr) RW.out)
        have OX := HP.out.o2.setFar ⟨w.heap.size, 4, none⟩ (.slice or nr cr) (by show w.heap.size + 1 ≠ w.heap.size; omega)
        have BX := HP.out.bel.setCell (p := ⟨w.heap.size, 4, none⟩) (Nat.le_refl _) (.slice or nr cr)
        clear AT hr3 RW
        go_wp2_with fail
        have key := And.intro (st5_own OX (.int .i64 op) (.string t) (.int .i64 n) (.complex .f64 x y) (.slice or nr cr)) (And.intro (st5_below (b := w.heap.size + 1) BX (by omega) (.int .i64 op) (.string t) (.int .i64 n) (.complex .f64 x y) (.slice or nr cr)) (Lib.hid (s3_lies (B := B) (w := w) (X := (wr.setCell ⟨w.heap.size, 4, none⟩ (.slice or nr cr))) (.int .i64 op) (.string t) (.int .i64 n) (.complex .f64 x y) (.slice or nr cr) (show Lies 5 pc (S3 B w (wr.setCell ⟨w.heap.size, 4, none⟩ (.slice or nr cr))) (wr.setCell ⟨w.heap.size, 4, none⟩ (.slice or nr cr)) (.node op t n x y (R 0).l) (.slice or nr cr) from RX.out))))
        clear l1 f1 l2 f2 z1 z2
        unfold st5 at key
        revert key
        generalize World.setCell (World.setCell (World.setCell (World.setCell (World.setCell _ _ _) _ _) _ _) _ _) _ _ = WW
        rintro ⟨of, bf, HE⟩
        have lf := of.cell
        refine bodyPost_ret (v := .agg #[.int .i64 op, .string t, .int .i64 n, .complex .f64 x y, .slice or nr cr]) (by simp [results, Try.results28, go_sem, lf]) rfl (mergeOut_of EQ.out ⟨(.slice or nr cr), rfl, HE.out, bf⟩)

end Go.Proofs.Ytgfepbcolcmdgaa
