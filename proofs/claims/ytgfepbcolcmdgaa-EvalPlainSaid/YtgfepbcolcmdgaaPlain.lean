/- Filters made plain: the code's Plain, walked. -/
import Derived.Test.YtgfepbcolcmdgaaTurn
namespace Go.Proofs.Ytgfepbcolcmdgaa
open Go.RowKit

theorem plainsC_take {l : List Pr} {k : Nat} {p : Pr} (hp : l[k]? = some p) : Pr.plainsC (l.take (k + 1)) = Pr.plainsC (l.take k) ++ [p.plainC] := by
  rw [Pr.plainsC_map, Pr.plainsC_map, Pr.take_one hp]; simp
theorem plainsC_sizes : ∀ l : List Pr, Pr.alls l = true → Pr.sizes (Pr.plainsC l) ≤ Pr.sizes l := by
  intro l
  induction l with
  | nil => intro _; simp [Pr.plainsC]
  | cons a l ihl =>
    intro h
    simp only [Pr.alls, Bool.and_eq_true] at h
    have := (Pr.plainC_good a h.1).2.2.1
    have := ihl h.2
    simp only [Pr.plainsC, Pr.sizes]; omega

/-- What stands in memory: the argument, the result; the rows. -/
structure QSt (w : World) (bx zz : Array Value) (R : Nat → Rw) (wr : World) : Prop where
  o1 : Own wr w.heap.size bx 33
  o2 : Own wr (w.heap.size + 1) zz 33
  st : Stock wr (w.heap.size + 2) R
  bel : Below w.heap.size w wr
theorem QSt.later {w wr w' : World} {bx zz : Array Value} {R : Nat → Rw} (h : QSt w bx zz R wr) (hb : Below wr.heap.size wr w') : QSt w bx zz R w' :=
  ⟨h.o1.later hb, h.o2.later hb, h.st.later hb, h.bel.trans (hb.mono h.bel.size)⟩
theorem QSt.alloc {w wr : World} {bx zz : Array Value} {R : Nat → Rw} (h : QSt w bx zz R wr) (o : Obj) : QSt w bx zz R (wr.alloc o) := h.later ((Below.refl _ _).alloc (Nat.le_refl _) _)
theorem QSt.base {w wr : World} {bx zz : Array Value} {R : Nat → Rw} (h : QSt w bx zz R wr) : w.heap.size + 2 ≤ wr.heap.size := by have := h.o2.lt; omega
theorem QSt.set4 {w wr : World} {zz : Array Value} {a b c d e : Value} {R : Nat → Rw} (h : QSt w #[a, b, c, d, e] zz R wr) (u : Value) : QSt w #[a, b, c, d, u] zz R (wr.setCell ⟨w.heap.size, 4, none⟩ u) :=
  ⟨h.o1.set 4 u, h.o2.setFar _ _ (by show w.heap.size + 1 ≠ w.heap.size; omega), h.st.setLow _ _ (by show w.heap.size < w.heap.size + 2; omega), h.bel.setCell (Nat.le_refl _) _⟩
theorem QSt.push {w wr w' : World} {bx zz : Array Value} {R : Nat → Rw} (h : QSt w bx zz R wr) (i : Nat) (m : List Pr) (W : Nat → Value) (hm : ∀ j p, m[j]? = some p → Lies 5 pc (Sof wr (w.heap.size + 2) R) wr p (W j)) {g cap n : Nat} (hn : n = (R i).l.length + m.length)
    (hown : w'.ownsRow (w.heap.size + 2) 33 5 (.slice (some ⟨g, 0, none⟩) n cap) n (newsOf (R i).V 0 (R i).l ++ newsOf W 0 m)) (hgrow : wr.grownBy w' (R i).v.ownBlock) (hat : (R i).v.ownBlock = some g ∨ g = wr.heap.size) :
    QSt w bx zz (upd R i ⟨(R i).l ++ m, .slice (some ⟨g, 0, none⟩) n cap, glueV (R i).l.length (R i).V W⟩) w' :=
  ⟨h.o1.grown hgrow (own_ne (h.st.row i).1 (by omega)), h.o2.grown hgrow (own_ne (h.st.row i).1 (by omega)), h.st.push i m W hm hn hown hgrow hat,
    h.bel.grown hgrow h.bel.size fun k hk => by have := ((h.st.row i).1.lt k hk).1; omega⟩
theorem st5_low {w X : World} (c0 c1 c2 c3 c4 : Value) {q : Pr} {v : Value} (hl : Lies 5 pc (fun b => w.heap.size + 2 ≤ b ∧ b < X.heap.size) X q v) : Lies 5 pc (fun b => w.heap.size ≤ b ∧ b < (st5 X (w.heap.size + 1) c0 c1 c2 c3 c4).heap.size) (st5 X (w.heap.size + 1) c0 c1 c2 c3 c4) q v :=
  hl.mono (fun b o hS => World.cell?_of_block (st5_heap _ _ _ _ _ _ _ _ (by have := hS.1; show b ≠ _; omega))) (fun b hS => ⟨by have := hS.1; omega, by rw [st5_size]; exact hS.2⟩)
def Reg2 (w X : World) (b : Nat) : Prop := w.heap.size + 2 ≤ b ∧ b < X.heap.size

def QRel (l : List Pr) (len : Nat) (w : World) (bx zz : Array Value) (kv i : Value) (wr : World) : Prop :=
  ∃ (k : Nat) (R : Nat → Rw), k ≤ len ∧ i = .int .i64 k ∧ kv = (R 0).v ∧ Hid ((R 0).l = Pr.plainsC (l.take k)) ∧ Hid (QSt w bx zz R wr)

def PlainFn (p : Pr) : Prop := ∀ (v : Value) (w : World), LP w p v → p.size ≤ 60 → p.all = true →
    Calls Try.prog 13 #[.agg #[.int .i64 p.op, .string p.text, .int .i64 p.n, .complex .f64 p.x p.y, v]] w (PlainOut p.plainC w)

attribute [local go_sem ↓] Go.wp_at_zero Go.wp_at_succ
set_option maxRecDepth 100000 in
set_option maxHeartbeats 8000000 in
theorem plain_calls (p : Pr) : PlainFn p := by
  induction p using Pr.ind with
  | h op t n x y kids ih =>
    intro v w hL hsz hall
    obtain ⟨oa, cap, b, o, V, rfl, ht, hl, hc, hn, hcell, hrec⟩ := lies_slice hL
    simp only [Pr.kids_node, Pr.text_node, Pr.op_node, Pr.n_node, Pr.x_node, Pr.y_node, Pr.size, Pr.all, Bool.and_eq_true] at *
    unfold maxLen at hc
    have h60 := Pr.len_le_sizes kids
    have HC := Lib.hid hcell
    have HR := Lib.hid hrec
    have HN := Lib.hid hn
    have HI := Lib.hid ih
    have HA := Lib.hid hall
    have HT := Lib.hid ht
    clear hL hcell hrec hn ih hall ht
    generalize hlen : kids.length = len at *
    have HLEN := Lib.hid hlen
    clear hlen
    obtain ⟨i0, hi, hz0, hz1, hz2⟩ := info_parts info_pred
    go_enter Try.func13, Try.ntmps13
    go_wp2_with fail
    go_loopw [3, 9] (fun kv i wr => QRel kids len w #[.int .i64 op, .string t, .int .i64 n, .complex .f64 x y, .slice oa len cap] #[.int .i64 0, .string ⟨#[]⟩, .int .i64 0, .complex .f64 0 0, .slice none 0 0] kv i wr) (fun _ i _ => len - (intOf i).toNat)
    case atStart =>
      exact ⟨0, fun _ => Rw.nil, Nat.zero_le _, rfl, rfl, by simp [Hid, Rw.nil, Pr.plainsC], ⟨(Own.new w _ _).alloc _, Own.newAt _ _ _ (by simp), Stock.empty _ _, ((Below.refl _ _).alloc (Nat.le_refl _) _).alloc (by simp) _⟩⟩
    case round =>
      obtain ⟨k, R, hk, rfl, rfl, HL0, HP⟩ := hrel
      by_cases hlt : k < len
      · obtain ⟨q, hq⟩ : ∃ q, kids[k]? = some q := ⟨_, List.getElem?_eq_getElem (by rw [HLEN.out]; exact hlt)⟩
        obtain ⟨rfl, hS⟩ := HN.out (by omega)
        obtain ⟨oq, cq, hV⟩ := lies_val (HR.out k q hq)
        obtain ⟨c0, c1, c2, c3, c4⟩ := pc_cells (w := wr) (fun j u hu => (HP.out.bel.cell (p := ⟨b, o + k * 5 + j, none⟩) hS).trans (HC.out k q hq j u hu))
        have hqs := Pr.size_mem (List.mem_of_getElem? hq)
        have L0 := (HR.out k q hq).later HP.out.bel (Nat.le_refl _)
        rw [hV] at c4 L0
        have CC := Lib.hid (HI.out q (List.mem_of_getElem? hq) (.slice oq q.kids.length cq) (wr.alloc (.cells #[.int .i64 q.op, .string q.text, .int .i64 q.n, .complex .f64 q.x q.y, .slice oq q.kids.length cq] 33)) (L0.atAlloc _) (by omega) (Pr.all_mem (List.mem_of_getElem? hq) HA.out.2))
        have hk0 : (R 0).l.length = k := by rw [HL0.out, Pr.plainsC_map]; simp; have := HLEN.out; omega
        have HQ := Lib.hid hq
        have hk60 : (R 0).l.length ≤ 60 := by omega
        have HK0 := Lib.hid hk0
        have HPa := Lib.hid (HP.out.alloc (.cells #[.int .i64 q.op, .string q.text, .int .i64 q.n, .complex .f64 q.x q.y, .slice oq q.kids.length cq] 33))
        have zb := Nat.lt_of_lt_of_le hS HP.out.bel.size
        clear hq hV L0 hk0 hS
        go_wp2_with fail
        refine CC.out.mono ?_
        rintro e w2 ⟨vq, rfl, hlq, hb2⟩
        have HW2 := Lib.hid (HPa.out.later hb2)
        have HLq := Lib.hid hlq
        have hone := lies_one hlq
        clear hlq hb2
        go_wp2_with (at_builtin; refine wpList_append_lies _ (by rfl) _ _ _ (by rfl) (w.heap.size + 2) 33 i0 _ 5 72 Try.underlying31 hi hz0 hz1 hz2 rfl (by omega) (R 0).v (R 0).l.length (newsOf (R 0).V 0 (R 0).l) (by rfl) ((HW2.out.alloc _).st.row 0).1 ⟨w2.heap.size, 0, none⟩ 1 1 (newsOf (fun _ => vq) 0 [q.plainC]) (by rfl) (by rfl) news1 (news1_one hone) (by omega) (by unfold maxLen; omega) (by omega) (by have := HW2.out.base; simp; omega) (w2.heap.size + 1) (by simp) ?_; intro g cap' w3 hown3 hgrow hat hlt3)
        have R1 := Lib.hid ((HW2.out.alloc (.cells #[.int .i64 q.plainC.op, .string q.plainC.text, .int .i64 q.plainC.n, .complex .f64 q.plainC.x q.plainC.y, vq] 33)).push 0 [q.plainC] (fun _ => vq) (fun j p hp => by
          match j, hp with
          | 0, hp => simp at hp; subst hp; exact (fresh_apart HPa.out.st (by have := HP.out.base; simp; omega) HLq.out).mono (fun b o hS => World.cell?_of_block (Below.heap_alloc _ _ _ hS.2.1)) (fun b hS => ⟨hS.1, by simp; have := hS.2.1; omega, hS.2.2⟩)) rfl hown3 hgrow (by simpa using hat))
        clear hown3 hgrow hat
        go_roundw
        case rel => exact ⟨k + 1, _, by omega, by go_num, by simp [upd], by unfold Hid; rw [upd_same, plainsC_take HQ.out, ← HL0.out], R1.out⟩
        case measure => simp [intOf]; omega
      · have e : k = len := by omega
        subst e
        have hl0 := HL0.out
        rw [Pr.take_all kids (by rw [HLEN.out]; omega)] at hl0
        have HL1 := Lib.hid hl0
        clear hl0 HL0
        have hsz1 : Pr.sizes (R 0).l ≤ 5000 := by
          rw [HL1.out]; have := plainsC_sizes kids HA.out.2; omega
        have hpl : Pr.plainC (.node op t n x y kids) = Pr.finishC op t n x y (R 0).l := by rw [HL1.out]; simp only [Pr.plainC]
        have HPL := Lib.hid hpl
        obtain ⟨ok, ck, gk, ev, hk1, hk2, hk3⟩ := HP.out.st.slice 0
        unfold maxLen at hk2
        have LX := HP.out.set4 (R 0).v
        have LL := LX.st.lies 0 (Nat.le_refl _) op t n x y HT.out
        have HLX := Lib.hid LX
        have HLL := Lib.hid LL
        clear hpl LX LL hk3
        generalize hnr : (R 0).l.length = nr at *
        rw [ev] at HLX HLL ⊢
        clear ev
        have l1 := HP.out.o1.cell
        have f1 := HP.out.o1.free
        have l2 := HP.out.o2.cell
        have f2 := HP.out.o2.free
        have z1 := HP.out.o1.lt
        have z2 := HP.out.o2.lt
        have zb1 : w.heap.size + 2 ≤ (wr.setCell ⟨w.heap.size, 4, none⟩ (.slice ok nr ck)).heap.size := by rw [size_set]; have := HP.out.base; omega
        by_cases h8 : op = 8
        · subst h8
          have EQ := Lib.hid (HPL.out.trans (show Pr.finishC 8 t n x y (R 0).l = (Pr.mergeC 8 1 2 t n x y [] (R 0).l) by unfold Pr.finishC; rw [if_pos rfl]))
          have CC := Lib.hid (merge_calls 8 1 2 t n x y (R 0).l (w.heap.size + 2) (.slice ok nr ck) (wr.setCell ⟨w.heap.size, 4, none⟩ (.slice ok nr ck)) zb1 HLL.out hsz1)
          clear HPL
          generalize (Pr.mergeC 8 1 2 t n x y [] (R 0).l) = qq at *
          go_wp2_with fail
          refine CC.out.mono ?_
          rintro e w2 ⟨vq, rfl, hlq, hb2⟩
          obtain ⟨oz, cz, rfl⟩ := lies_val hlq
          have HW2 := Lib.hid (HLX.out.later hb2)
          have HLq := Lib.hid hlq
          clear hlq hb2 l1 f1 l2 f2 z1 z2
          have l2 := HW2.out.o2.cell
          have f2 := HW2.out.o2.free
          have z2 := HW2.out.o2.lt
          go_wp2_with fail
          have key := And.intro (st5_own HW2.out.o2 (.int .i64 qq.op) (.string qq.text) (.int .i64 qq.n) (.complex .f64 qq.x qq.y) ((.slice oz qq.kids.length cz))) (And.intro (st5_below (b := w.heap.size + 1) HW2.out.bel (by omega) (.int .i64 qq.op) (.string qq.text) (.int .i64 qq.n) (.complex .f64 qq.x qq.y) ((.slice oz qq.kids.length cz))) (Lib.hid (st5_low (w := w) (X := w2) (.int .i64 qq.op) (.string qq.text) (.int .i64 qq.n) (.complex .f64 qq.x qq.y) ((.slice oz qq.kids.length cz)) (show Lies 5 pc (Reg2 w w2) w2 qq (.slice oz qq.kids.length cz) from HLq.out))))
          clear l2 f2 z2
          unfold st5 at key
          revert key
          generalize World.setCell (World.setCell (World.setCell (World.setCell (World.setCell _ _ _) _ _) _ _) _ _) _ _ = WW
          rintro ⟨of, bf, HE⟩
          have lf := of.cell
          refine bodyPost_ret (v := .agg #[.int .i64 qq.op, .string qq.text, .int .i64 qq.n, .complex .f64 qq.x qq.y, (.slice oz qq.kids.length cz)]) (by simp [results, Try.results13, go_sem, lf]) rfl (plainOut_of EQ.out ⟨(.slice oz qq.kids.length cz), rfl, HE.out, bf⟩)
        by_cases h9 : op = 9
        · subst h9
          have EQ := Lib.hid (HPL.out.trans (show Pr.finishC 9 t n x y (R 0).l = (Pr.mergeC 9 2 1 t n x y [] (R 0).l) by unfold Pr.finishC; rw [if_neg (by decide), if_pos rfl]))
          have CC := Lib.hid (merge_calls 9 2 1 t n x y (R 0).l (w.heap.size + 2) (.slice ok nr ck) (wr.setCell ⟨w.heap.size, 4, none⟩ (.slice ok nr ck)) zb1 HLL.out hsz1)
          clear HPL
          generalize (Pr.mergeC 9 2 1 t n x y [] (R 0).l) = qq at *
          go_wp2_with fail
          refine CC.out.mono ?_
          rintro e w2 ⟨vq, rfl, hlq, hb2⟩
          obtain ⟨oz, cz, rfl⟩ := lies_val hlq
          have HW2 := Lib.hid (HLX.out.later hb2)
          have HLq := Lib.hid hlq
          clear hlq hb2 l1 f1 l2 f2 z1 z2
          have l2 := HW2.out.o2.cell
          have f2 := HW2.out.o2.free
          have z2 := HW2.out.o2.lt
          go_wp2_with fail
          have key := And.intro (st5_own HW2.out.o2 (.int .i64 qq.op) (.string qq.text) (.int .i64 qq.n) (.complex .f64 qq.x qq.y) ((.slice oz qq.kids.length cz))) (And.intro (st5_below (b := w.heap.size + 1) HW2.out.bel (by omega) (.int .i64 qq.op) (.string qq.text) (.int .i64 qq.n) (.complex .f64 qq.x qq.y) ((.slice oz qq.kids.length cz))) (Lib.hid (st5_low (w := w) (X := w2) (.int .i64 qq.op) (.string qq.text) (.int .i64 qq.n) (.complex .f64 qq.x qq.y) ((.slice oz qq.kids.length cz)) (show Lies 5 pc (Reg2 w w2) w2 qq (.slice oz qq.kids.length cz) from HLq.out))))
          clear l2 f2 z2
          unfold st5 at key
          revert key
          generalize World.setCell (World.setCell (World.setCell (World.setCell (World.setCell _ _ _) _ _) _ _) _ _) _ _ = WW
          rintro ⟨of, bf, HE⟩
          have lf := of.cell
          refine bodyPost_ret (v := .agg #[.int .i64 qq.op, .string qq.text, .int .i64 qq.n, .complex .f64 qq.x qq.y, (.slice oz qq.kids.length cz)]) (by simp [results, Try.results13, go_sem, lf]) rfl (plainOut_of EQ.out ⟨(.slice oz qq.kids.length cz), rfl, HE.out, bf⟩)
        by_cases h10 : op = 10
        · subst h10
          have EQ := Lib.hid (HPL.out.trans (show Pr.finishC 10 t n x y (R 0).l = (Pr.turnC t n x y (R 0).l) by unfold Pr.finishC; rw [if_neg (by decide), if_neg (by decide), if_pos rfl]))
          have CC := Lib.hid (turn_calls t n x y (R 0).l (w.heap.size + 2) (.slice ok nr ck) (wr.setCell ⟨w.heap.size, 4, none⟩ (.slice ok nr ck)) zb1 HLL.out)
          clear HPL
          generalize (Pr.turnC t n x y (R 0).l) = qq at *
          go_wp2_with fail
          refine CC.out.mono ?_
          rintro e w2 ⟨vq, rfl, hlq, hb2⟩
          obtain ⟨oz, cz, rfl⟩ := lies_val hlq
          have HW2 := Lib.hid (HLX.out.later hb2)
          have HLq := Lib.hid hlq
          clear hlq hb2 l1 f1 l2 f2 z1 z2
          have l2 := HW2.out.o2.cell
          have f2 := HW2.out.o2.free
          have z2 := HW2.out.o2.lt
          go_wp2_with fail
          have key := And.intro (st5_own HW2.out.o2 (.int .i64 qq.op) (.string qq.text) (.int .i64 qq.n) (.complex .f64 qq.x qq.y) ((.slice oz qq.kids.length cz))) (And.intro (st5_below (b := w.heap.size + 1) HW2.out.bel (by omega) (.int .i64 qq.op) (.string qq.text) (.int .i64 qq.n) (.complex .f64 qq.x qq.y) ((.slice oz qq.kids.length cz))) (Lib.hid (st5_low (w := w) (X := w2) (.int .i64 qq.op) (.string qq.text) (.int .i64 qq.n) (.complex .f64 qq.x qq.y) ((.slice oz qq.kids.length cz)) (show Lies 5 pc (Reg2 w w2) w2 qq (.slice oz qq.kids.length cz) from HLq.out))))
          clear l2 f2 z2
          unfold st5 at key
          revert key
          generalize World.setCell (World.setCell (World.setCell (World.setCell (World.setCell _ _ _) _ _) _ _) _ _) _ _ = WW
          rintro ⟨of, bf, HE⟩
          have lf := of.cell
          refine bodyPost_ret (v := .agg #[.int .i64 qq.op, .string qq.text, .int .i64 qq.n, .complex .f64 qq.x qq.y, (.slice oz qq.kids.length cz)]) (by simp [results, Try.results13, go_sem, lf]) rfl (plainOut_of EQ.out ⟨(.slice oz qq.kids.length cz), rfl, HE.out, bf⟩)
        have EQ := Lib.hid (HPL.out.trans (show Pr.finishC op t n x y (R 0).l = .node op t n x y (R 0).l by unfold Pr.finishC; rw [if_neg h8, if_neg h9, if_neg h10]))
        have g8 : (op == 8) = false := by rw [beq_eq_false_iff_ne]; exact h8
        have g9 : (op == 9) = false := by rw [beq_eq_false_iff_ne]; exact h9
        have g10 : (op == 10) = false := by rw [beq_eq_false_iff_ne]; exact h10
        go_wp2_with fail
        have key := And.intro (st5_own HLX.out.o2 (.int .i64 op) (.string t) (.int .i64 n) (.complex .f64 x y) (.slice ok nr ck)) (And.intro (st5_below (b := w.heap.size + 1) HLX.out.bel (by omega) (.int .i64 op) (.string t) (.int .i64 n) (.complex .f64 x y) (.slice ok nr ck)) (Lib.hid (st5_low (w := w) (X := (wr.setCell ⟨w.heap.size, 4, none⟩ (.slice ok nr ck))) (.int .i64 op) (.string t) (.int .i64 n) (.complex .f64 x y) (.slice ok nr ck) (show Lies 5 pc (Reg2 w (wr.setCell ⟨w.heap.size, 4, none⟩ (.slice ok nr ck))) (wr.setCell ⟨w.heap.size, 4, none⟩ (.slice ok nr ck)) (.node op t n x y (R 0).l) (.slice ok nr ck) from HLL.out))))
        clear l1 f1 l2 f2 z1 z2
        unfold st5 at key
        revert key
        generalize World.setCell (World.setCell (World.setCell (World.setCell (World.setCell _ _ _) _ _) _ _) _ _) _ _ = WW
        rintro ⟨of, bf, HE⟩
        have lf := of.cell
        refine bodyPost_ret (v := .agg #[.int .i64 op, .string t, .int .i64 n, .complex .f64 x y, .slice ok nr ck]) (by simp [results, Try.results13, go_sem, lf]) rfl (plainOut_of EQ.out ⟨(.slice ok nr ck), rfl, HE.out, bf⟩)

end Go.Proofs.Ytgfepbcolcmdgaa
