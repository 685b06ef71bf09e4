/- Joined: StGood3, FreA, RcvGood, LocF2. -/
import Derived.Test.YtjkcooakddlppaaGreatJ34
import Derived.Laws.EntriesVeiled
import Derived.Test.YtjkcooakddlppaaGreatJ33
/- States that may be: whatever is done. Plain mathematics, no walk. -/
namespace Go.Proofs.YtjkcooakddlppaaGreat
set_option linter.unusedVariables false
set_option linter.unusedSimpArgs false
set_option maxRecDepth 100000
open Go.RowKit
end Go.Proofs.YtjkcooakddlppaaGreat
/- The code's fresh: how many parts are left, a filter in new memory. Walked. -/
namespace Go.Proofs.YtjkcooakddlppaaGreat
set_option linter.unusedVariables false
set_option linter.unusedSimpArgs false
set_option maxRecDepth 100000
open Go.RowKit
def FleRel (l : List Pr) (len : Nat) (n : Int) (w0 : World) (most i : Value) (wr : World) : Prop :=
  ∃ (k : Nat) (r : Int), k ≤ len ∧ i = .int .i64 k ∧ most = .int .i64 r ∧ r ≤ 100000000 ∧ Hid (r = n - (1 + Pr.sizes (l.take k) : Nat)) ∧ Below w0.heap.size w0 wr
set_option maxHeartbeats 1000000 in
theorem freLeft_calls (p : Pr) : ∀ (v : Value) (n : Int) (w : World), LP w p v → (p.size : Int) ≤ n → n ≤ 100000000 →
    Calls Tryz.prog 140 #[prV p v, .int .i64 n] w fun e w' => e = .returned (.int .i64 (n - p.size)) ∧ Below w.heap.size w w' := by
  induction p using Pr.ind with
  | h op t nn x y kids ih =>
    intro v n w hL h1 h2
    obtain ⟨oa, cap, b, o, V, rfl, ht, hl, hc, hn, hcell, hrec⟩ := lies_slice hL
    simp only [prV, Pr.kids_node, Pr.text_node, Pr.op_node, Pr.n_node, Pr.x_node, Pr.y_node, Pr.size] at *
    unfold maxLen at hc
    have hpos := Pr.len_le_sizes kids
    have HC := Lib.hid hcell
    have HR := Lib.hid hrec
    have HN := Lib.hid hn
    have HI := Lib.hid ih
    clear hL hcell hrec hn ih
    generalize hlen : kids.length = len at *
    have HLEN := Lib.hid hlen
    clear hlen
    go_enter Tryz.func140, Tryz.ntmps140
    go_wp2_with fail
    go_loopw [1, 12] (fun most i wr => FleRel kids len n (w.alloc (.cells #[.int .i64 op, .string t, .int .i64 nn, .complex .f64 x y, .slice oa len cap] 43)) most i wr) (fun _ i _ => len - (intOf i).toNat)
    case atStart => exact ⟨0, n - 1, Nat.zero_le _, rfl, rfl, by omega, by simp [Hid, Pr.sizes], Below.refl _ _⟩
    case round =>
      obtain ⟨k, r, hk, rfl, rfl, hr1, HRr, hb⟩ := hrel
      by_cases hlt : k < len
      · obtain ⟨q, hq⟩ : ∃ q, kids[k]? = some q := ⟨_, List.getElem?_eq_getElem (by rw [HLEN.out]; exact hlt)⟩
        obtain ⟨rfl, hS⟩ := HN.out (by omega)
        have hbw : Below w.heap.size w wr := ((Below.refl _ _).alloc (Nat.le_refl _) _).trans (hb.mono (by simp))
        obtain ⟨oq, cq, hV⟩ := lies_val (HR.out k q hq)
        obtain ⟨c0, c1, c2, c3, c4⟩ := pc_cells (w := wr) (fun j u hu => (hbw.cell (p := ⟨b, o + k * 5 + j, none⟩) hS).trans (HC.out k q hq j u hu))
        have L0 := HR.out k q hq
        rw [hV] at c4 L0
        have h3 := Pr.sizes_take hq
        have h4 : Pr.sizes kids = Pr.sizes (kids.take (k + 1)) + Pr.sizes (kids.drop (k + 1)) := by rw [← Pr.sizes_append, List.take_append_drop]
        have h5 := HRr.out
        have h6 := Pr.size_pos q
        have hr0 : 0 ≤ r := by omega
        have g0 : decide (r < 0) = false := decide_eq_false (by omega)
        have CC := Lib.hid (HI.out q (List.mem_of_getElem? hq) (.slice oq q.kids.length cq) r (wr.alloc (.cells #[.int .i64 q.op, .string q.text, .int .i64 q.n, .complex .f64 q.x q.y, .slice oq q.kids.length cq] 43)) ((L0.later hbw (Nat.le_refl _)).atAlloc _) (by omega) (by omega))
        have HB := Lib.hid hb
        have HQ := Lib.hid hq
        have zb : b < wr.heap.size := Nat.lt_of_lt_of_le hS hbw.size
        clear hb hbw hq L0 h3 h4 h5 h6 hS
        go_wp2_with (go_at_call 140; refine CC.out.mono ?_; rintro e w' ⟨rfl, hb'⟩)
        have h3 := Pr.sizes_take HQ.out
        have h5 := HRr.out
        go_roundw
        case rel => exact ⟨k + 1, r - q.size, by omega, by go_num, rfl, by omega, by unfold Hid; rw [h3]; omega, (HB.out.alloc HB.out.size _).trans (hb'.mono (Nat.le_trans HB.out.size (by simp)))⟩
        case measure => simp [intOf]; omega
      · have HB := Lib.hid hb
        clear hb
        have e : k = len := by omega
        have h5 := HRr.out
        rw [Pr.take_all kids (by rw [HLEN.out]; omega)] at h5
        have H5 := Lib.hid h5
        clear h5 e
        go_wp2_with fail
        go_ret
        have h5 := H5.out
        exact ⟨ret_int (by exact h5), below_new HB.out⟩
structure FiS (w : World) (kids : List Pr) (X Z : Array Value) (V : Nat → Value) (rv : Value) (g k : Nat) (V' : Nat → Value) (wr : World) : Prop where
  x : Own wr w.heap.size X 43
  z : Own wr (w.heap.size + 1) Z 43
  row : wr.ownsRow (w.heap.size + 2) 43 5 rv kids.length (newsOf V' 0 kids)
  done : ∀ i q, i < k → kids[i]? = some q → LPF wr (g + 1) q (V' i)
  left : ∀ i, k ≤ i → V' i = V i
  be : Below w.heap.size w wr
def FiRel (w : World) (kids : List Pr) (len : Nat) (X Z : Array Value) (V : Nat → Value) (rv : Value) (g : Nat) (i : Value) (wr : World) : Prop :=
  ∃ (k : Nat) (V' : Nat → Value), k ≤ len ∧ i = .int .i64 k ∧ Hid (FiS w kids X Z V rv g k V' wr)
set_option maxHeartbeats 1000000 in
theorem FiS.step {w wr w8 : World} {kids : List Pr} {X Z : Array Value} {V V' : Nat → Value} {len cap g k : Nat} {q : Pr} {v8 : Value} {C : Array Value} (h : FiS w kids X Z V (.slice (some ⟨g, 0, none⟩) len cap) g k V' wr) (hlen : kids.length = len)
    (hg : w.heap.size + 2 ≤ g) (hgl : g < wr.heap.size) (hq : kids[k]? = some q)
    (hL : LPF w8 (wr.alloc (.cells C 43)).heap.size q v8) (hb : Below (wr.alloc (.cells C 43)).heap.size (wr.alloc (.cells C 43)) w8) :
    FiS w kids X Z V (.slice (some ⟨g, 0, none⟩) len cap) g (k + 1) (updU V' k v8) (w8.setCells g (k * 5) (pc q v8)) := by
  have hk := some_pos hq
  have hs : wr.heap.size ≤ (wr.alloc (.cells C 43)).heap.size := by simp
  have hb8 : Below wr.heap.size wr w8 := ((Below.refl _ _).alloc (Nat.le_refl _) _).trans (hb.mono hs)
  refine ⟨?_, ?_, ?_, ?_, ?_, ?_⟩
  · exact (h.x.later hb8).setsFar _ _ (by omega)
  · exact (h.z.later hb8).setsFar _ _ (by omega)
  · rw [← news_setL V' kids k q v8 hq]
    have hr := ownsRow_below h.row hb8
    subst hlen
    exact row_sets _ _ hr (by simp [pc]; omega)
  · intro i p hi hp
    by_cases e : i = k
    · subst e
      rw [hq] at hp; cases hp
      rw [updU_same]
      exact (hL.mono' (by simp; omega)).setsAt (by omega) _ _
    · rw [updU_far _ _ e]
      exact ((h.done i p (by omega) hp).later hb8).setsAt (by omega) _ _
  · intro i hi
    rw [updU_far _ _ (by omega)]
    exact h.left i (by omega)
  · exact below_sets (by omega) _ _ (h.be.trans (hb8.mono h.be.size))
theorem fiS_start {w w3 W2 : World} {kids : List Pr} {V : Nat → Value} {o3 : Option Addr} {len c3 g : Nat} {op : Int} {t : ByteArray} {nn : Int} {x y : Nat} {oa : Option Addr} {l0 cap : Nat} {Z : Array Value}
    (hx : Own w3 w.heap.size #[.int .i64 op, .string t, .int .i64 nn, .complex .f64 x y, .slice oa l0 cap] 43) (hz : Own w3 (w.heap.size + 1) Z 43) (hb : Below w.heap.size w w3)
    (hr : w3.ownsRow W2.heap.size 43 5 (.slice o3 len c3) len (newsOf V 0 kids)) (hW : w.heap.size + 2 ≤ W2.heap.size) (hlen : kids.length = len) :
    FiS w kids #[.int .i64 op, .string t, .int .i64 nn, .complex .f64 x y, .slice o3 len c3] Z V (.slice o3 len c3) g 0 V (w3.setCell ⟨w.heap.size, 4, none⟩ (.slice o3 len c3)) := by
  subst hlen
  refine ⟨?_, hz.setFar _ _ (by show w.heap.size + 1 ≠ w.heap.size; omega), ?_, fun i q hi => absurd hi (by omega), fun _ _ => rfl, hb.setCell (p := ⟨w.heap.size, 4, none⟩) (Nat.le_refl _) _⟩
  · simpa using hx.set 4 (.slice o3 kids.length c3)
  · exact ownsRow_setCell_below (row_base hr hW) (by show w.heap.size < w.heap.size + 2; omega) _
theorem FiS.fin {w wr : World} {kids : List Pr} {X Z : Array Value} {V V' : Nat → Value} {o3 : Option Addr} {len c3 g B3 B4 : Nat} {op : Int} {t : ByteArray} {nn : Int} {x y : Nat} (h : FiS w kids X Z V (.slice o3 len c3) g len V' wr) (hlen : kids.length = len)
    (hg : 0 < len → o3 = some ⟨g, 0, none⟩ ∧ B3 ≤ g ∧ g < B4) (hZ : 5 = Z.size) (ht : t.size ≤ maxLen) (h1 : len ≤ c3) (h2 : c3 ≤ maxLen) :
    Own (wr.setCells (w.heap.size + 1) 0 (pc (.node op t nn x y kids) (.slice o3 len c3))) (w.heap.size + 1) (pc (.node op t nn x y kids) (.slice o3 len c3)).toArray 43 ∧ LPF (wr.setCells (w.heap.size + 1) 0 (pc (.node op t nn x y kids) (.slice o3 len c3))) w.heap.size (.node op t nn x y kids) (.slice o3 len c3) ∧
      Below w.heap.size w (wr.setCells (w.heap.size + 1) 0 (pc (.node op t nn x y kids) (.slice o3 len c3))) := by
  generalize hvs : pc (.node op t nn x y kids) (.slice o3 len c3) = vs
  have hl5 : vs.length = Z.size := by rw [← hvs, ← hZ]; rfl
  have hsz : (wr.setCells (w.heap.size + 1) 0 vs).heap.size = wr.heap.size := size_sets _ _
  refine ⟨h.z.sets vs hl5, ?_, below_sets (by omega) _ _ h.be⟩
  have hrow := h.row
  rw [hlen] at hrow
  subst hlen
  refine .mk op t nn x y kids o3 c3 g 0 V' ht h1 h2 (fun h0 => ?_) (fun i q hq j u hu => ?_) (fun i q hq => ?_)
  · obtain ⟨rfl, _, _⟩ := hg h0
    have := hrow.lt g rfl
    exact ⟨rfl, by omega, by rw [hsz]; exact this.2⟩
  · have hi := some_pos hq
    obtain ⟨rfl, _, _⟩ := hg (by omega)
    have hlt := hrow.lt g rfl
    rw [World.cell?_setCells_out _ _ _ _ _ (fun e _ => by simp only at e; omega), Nat.zero_add]
    exact row_pc hrow rfl hq hi hu
  · have hi := some_pos hq
    obtain ⟨rfl, _, _⟩ := hg (by omega)
    have hlt := hrow.lt g rfl
    exact ((h.done i q hi hq).setsAt (by omega) vs 0).mono' (by omega)
theorem belowDrew' {B : Nat} {w w' : World} (h : Below B w.drew w') : Below B w w' := ⟨h.os, h.tape, h.output, h.size, h.block⟩
abbrev pZ : Array Value := #[.int .i64 0, .string ⟨#[]⟩, .int .i64 0, .complex .f64 0 0, .slice none 0 0]
set_option maxHeartbeats 4000000 in
theorem freFilter_calls (p : Pr) : ∀ (v : Value) (w : World), LP w p v → p.size ≤ 1000 →
    Calls Tryz.prog 107 #[prV p v] w fun e w' => ∃ v', e = .returned (prV p v') ∧ LPF w' w.heap.size p v' ∧ Below w.heap.size w w' := by
  induction p using Pr.ind with
  | h op t nn x y kids ih =>
    intro v w hL hs1
    obtain ⟨oa, cap, b, o, V, rfl, ht, hl, hc, hn, hcell, hrec⟩ := lies_slice hL
    simp only [prV, Pr.kids_node, Pr.text_node, Pr.op_node, Pr.n_node, Pr.x_node, Pr.y_node, Pr.size] at *
    have h1000 := Pr.len_le_sizes kids
    have OX := Lib.hid ((Own.new w #[.int .i64 op, .string t, .int .i64 nn, .complex .f64 x y, .slice oa kids.length cap] 43).alloc (.cells pZ 43))
    have OZ := Lib.hid (Own.newAt (w.alloc (.cells #[.int .i64 op, .string t, .int .i64 nn, .complex .f64 x y, .slice oa kids.length cap] 43)) pZ 43 (b := w.heap.size + 1) (by simp))
    have BE := Lib.hid (((Below.refl w.heap.size w).alloc (Nat.le_refl _) (.cells #[.int .i64 op, .string t, .int .i64 nn, .complex .f64 x y, .slice oa kids.length cap] 43)).alloc (by simp) (.cells pZ 43))
    have HC := Lib.hid hcell
    have HR := Lib.hid hrec
    have HN := Lib.hid hn
    have HI := Lib.hid ih
    have HT := Lib.hid ht
    have HCP := Lib.hid hc
    clear hL hcell hrec hn ih ht
    unfold maxLen at hc
    generalize hlen : kids.length = len at *
    have HLEN := Lib.hid hlen
    clear hlen
    have CLN := fun W2 (BE : Below w.heap.size w W2) => Lib.hid (cloneP_calls kids V oa cap b o W2 HCP.out (fun h => ⟨(HN.out (by rw [← HLEN.out]; exact h)).1, Nat.lt_of_lt_of_le (HN.out (by rw [← HLEN.out]; exact h)).2 BE.size⟩) (fun i p hp j u hu => (BE.cell (p := ⟨b, o + i * 5 + j, none⟩) (HN.out (by rw [← HLEN.out]; have := some_pos hp; omega)).2).trans (HC.out i p hp j u hu)) (fun i p hp => lies_one (HR.out i p hp)) (by rw [HLEN.out]; omega))
    rw [HLEN.out] at CLN
    have cx := OX.out.cell
    have fx := OX.out.free
    have zx := OX.out.lt
    go_enter Tryz.func107, Tryz.ntmps107
    go_upto_region 2 with (go_at_call 152; refine (CLN _ BE.out).out.mono ?_; rintro e w3 ⟨v3, rfl, hrow, hb3⟩; have hrow0 := Lib.hid hrow; obtain ⟨o3, c3, g, rfl, r1, r2, r3⟩ := row_slice hrow; clear cx fx zx hrow; have ZZ := Lib.hid OZ.out.lt; replace OX := Lib.hid (OX.out.later hb3); replace OZ := Lib.hid (OZ.out.later hb3); replace BE := Lib.hid (BE.out.trans (hb3.mono BE.out.size)); have HG := Lib.hid r3; have cx := OX.out.cell; have fx := OX.out.free; have zx := OX.out.lt; clear hb3 r3)
    unfold maxLen at r2
    have AS := Lib.hid (fiS_start (V := V) (kids := kids) (o3 := o3) (len := len) (c3 := c3) (g := g) (op := op) (t := t) (nn := nn) (x := x) (y := y) OX.out OZ.out BE.out hrow0.out ZZ.out HLEN.out)
    clear cx fx zx OX OZ BE hrow0 CLN
    revert AS
    generalize World.setCell w3 ⟨w.heap.size, 4, none⟩ (.slice o3 len c3) = W4
    intro AS
    have cx := AS.out.x.cell
    have zx := AS.out.x.lt
    go_wp2_with fail
    go_loopw [12] (fun i wr => FiRel w kids len #[.int .i64 op, .string t, .int .i64 nn, .complex .f64 x y, .slice o3 len c3] pZ V (.slice o3 len c3) g i wr) (fun i _ => len - (intOf i).toNat)
    case atStart => exact ⟨0, V, Nat.zero_le _, rfl, AS⟩
    case round =>
      clear AS cx zx
      obtain ⟨k, V', hk, rfl, AS⟩ := hrel
      by_cases hlt : k < len
      · obtain ⟨q, hq⟩ : ∃ q, kids[k]? = some q := ⟨_, List.getElem?_eq_getElem (by rw [HLEN.out]; exact hlt)⟩
        obtain ⟨rfl, _, _⟩ := HG.out (by omega)
        have hrow := AS.out.row
        rw [HLEN.out] at hrow
        have zg : w.heap.size + 2 ≤ g ∧ g < wr.heap.size := AS.out.row.lt g rfl
        obtain ⟨oq, cq, hV⟩ := lies_val (HR.out k q hq)
        have hVk : V' k = .slice oq q.kids.length cq := (AS.out.left k (Nat.le_refl _)).trans hV
        obtain ⟨c0, c1, c2, c3', c4⟩ := pc_cells (w := wr) (q := q) (v := V' k) (b := g) (o := k * 5) (fun j u hu => by
          have hj : j < 5 := (List.getElem?_eq_some_iff.1 hu).1
          rw [hrow.cellAt (k * 5 + j) (by omega), news_get _ _ _ _ _ hq _ hj, Nat.zero_add]
          exact hu)
        have L0 := ((HR.out k q hq).later AS.out.be (Nat.le_refl _)).atAlloc (.cells #[.int .i64 q.op, .string q.text, .int .i64 q.n, .complex .f64 q.x q.y, .slice oq q.kids.length cq] 43)
        rw [hV] at L0
        rw [hVk] at c4
        have hqs := Pr.size_mem (List.mem_of_getElem? hq)
        have CC := Lib.hid (HI.out q (List.mem_of_getElem? hq) (.slice oq q.kids.length cq) _ L0.atDrew (by omega))
        have HROW := Lib.hid hrow
        have HQ := Lib.hid hq
        have HVK := Lib.hid hVk
        have OX := Lib.hid (AS.out.x.alloc (.cells #[.int .i64 q.op, .string q.text, .int .i64 q.n, .complex .f64 q.x q.y, .slice oq q.kids.length cq] 43))
        have OQ := Lib.hid (Own.new wr #[.int .i64 q.op, .string q.text, .int .i64 q.n, .complex .f64 q.x q.y, .slice oq q.kids.length cq] 43)
        have hg1 : w.heap.size ≠ g := by omega
        have hg3 : wr.heap.size ≠ g := by omega
        have zg1 := zg.2
        clear L0 hV hVk hrow
        go_upto_region 5 with fail
        clear c0 c1 c2 c3' c4
        go_region_held3 (fun w' => (∀ o, w'.cell? ⟨w.heap.size, o, none⟩ = (#[.int .i64 op, .string t, .int .i64 nn, .complex .f64 x y, .slice (some ⟨g, 0, none⟩) len c3] : Array Value)[o]?) ∧ (∀ o, w'.cell? ⟨wr.heap.size, o, none⟩ = (#[.int .i64 q.op, .string q.text, .int .i64 q.n, .complex .f64 q.x q.y, .slice oq q.kids.length cq] : Array Value)[o]?)) (first | with_reducible exact ⟨OX8.out.cell, OQ8.out.cell⟩ | with_reducible exact ⟨(OX8.out.far5 hg1 _ _ _ _ _ _ _ _ _ _).cell, (OQ8.out.far5 hg3 _ _ _ _ _ _ _ _ _ _).cell⟩ | with_reducible exact ⟨OX.out.cell, OQ.out.cell⟩ | with_reducible exact ⟨OX.out.drew.cell, OQ.out.drew.cell⟩) (first
          | (go_simp; go_at_call 107; with_reducible refine CC.out.mono ?_; rintro e w8 ⟨v8, rfl, hL8, hb8⟩; obtain ⟨o8, c8, rfl⟩ := lies_val hL8.lp; have OX8 := Lib.hid (OX.out.drew.later hb8); have OQ8 := Lib.hid (OQ.out.drew.later hb8); have hb9 : Below wr.heap.size wr w8 := (((Below.refl wr.heap.size wr).alloc (Nat.le_refl _) _).drew).trans (hb8.mono (by simp)); have hrow8 := ownsRow_below HROW.out hb9; have fg := row_free hrow8; have zg8 := (hrow8.lt g rfl).2; obtain ⟨e0, e1, e2, e3, e4⟩ := pc_cells (w := w8) (q := q) (v := V' k) (b := g) (o := k * 5) (fun j u hu => row_pc hrow8 HLEN.out HQ.out hlt hu); rw [HVK.out] at e4; clear hrow8; have HL8 := Lib.hid hL8; have HB8 := Lib.hid hb8; clear hL8 hb8 hb9)
          | fail)
        have KEY : Hid (FiS w kids #[.int .i64 op, .string t, .int .i64 nn, .complex .f64 x y, .slice (some ⟨g, 0, none⟩) len c3] pZ V (.slice (some ⟨g, 0, none⟩) len c3) g (k + 1) (updU V' k (.slice o8 q.kids.length c8)) (((((w8.setCell ⟨g, k * 5, none⟩ (.int .i64 q.op)).setCell ⟨g, k * 5 + 1, none⟩ (.string q.text)).setCell ⟨g, k * 5 + 2, none⟩ (.int .i64 q.n)).setCell ⟨g, k * 5 + 3, none⟩ (.complex .f64 q.x q.y)).setCell ⟨g, k * 5 + 4, none⟩ (.slice o8 q.kids.length c8))) :=
          Lib.hid (FiS.step AS.out HLEN.out zg.1 zg.2 HQ.out HL8.out (belowDrew' HB8.out))
        revert KEY
        clear e0 e1 e2 e3 e4 fg zg8 OX8 OQ8 HL8 HB8 CC OX OQ AS
        generalize World.setCell (World.setCell (World.setCell (World.setCell (World.setCell _ _ _) _ _) _ _) _ _) _ _ = W5
        intro KEY
        go_wp2_with fail
        go_roundw
        case rel => exact ⟨k + 1, _, by omega, by go_num, KEY⟩
        case measure => simp [intOf]; omega
      · have e : k = len := by omega
        subst e
        have cx := AS.out.x.cell
        have fx := AS.out.x.free
        have zx := AS.out.x.lt
        have cz := AS.out.z.cell
        have fz := AS.out.z.free
        have zz := AS.out.z.lt
        go_wp2_with fail
        have KEY := Lib.hid (FiS.fin (op := op) (t := t) (nn := nn) (x := x) (y := y) AS.out HLEN.out HG.out (by rfl) HT.out r1 r2)
        clear cx fx zx cz fz zz AS
        have KEY2 : Hid (Own (((((wr.setCell ⟨w.heap.size + 1, 0, none⟩ (.int .i64 op)).setCell ⟨w.heap.size + 1, 1, none⟩ (.string t)).setCell ⟨w.heap.size + 1, 2, none⟩ (.int .i64 nn)).setCell ⟨w.heap.size + 1, 3, none⟩ (.complex .f64 x y)).setCell ⟨w.heap.size + 1, 4, none⟩ (.slice o3 k c3)) (w.heap.size + 1) #[.int .i64 op, .string t, .int .i64 nn, .complex .f64 x y, .slice o3 k c3] 43 ∧ LPF (((((wr.setCell ⟨w.heap.size + 1, 0, none⟩ (.int .i64 op)).setCell ⟨w.heap.size + 1, 1, none⟩ (.string t)).setCell ⟨w.heap.size + 1, 2, none⟩ (.int .i64 nn)).setCell ⟨w.heap.size + 1, 3, none⟩ (.complex .f64 x y)).setCell ⟨w.heap.size + 1, 4, none⟩ (.slice o3 k c3)) w.heap.size (.node op t nn x y kids) (.slice o3 k c3) ∧ Below w.heap.size w (((((wr.setCell ⟨w.heap.size + 1, 0, none⟩ (.int .i64 op)).setCell ⟨w.heap.size + 1, 1, none⟩ (.string t)).setCell ⟨w.heap.size + 1, 2, none⟩ (.int .i64 nn)).setCell ⟨w.heap.size + 1, 3, none⟩ (.complex .f64 x y)).setCell ⟨w.heap.size + 1, 4, none⟩ (.slice o3 k c3))) := KEY
        clear KEY
        revert KEY2
        generalize World.setCell (World.setCell (World.setCell (World.setCell (World.setCell _ _ _) _ _) _ _) _ _) _ _ = W5
        intro KEY
        have lf := KEY.out.1.cell
        exact bodyPost_ret (v := .agg #[.int .i64 op, .string t, .int .i64 nn, .complex .f64 x y, .slice o3 k c3]) (by simp [results, Tryz.results107, go_sem, lf]) rfl ⟨_, rfl, KEY.out.2.1, KEY.out.2.2⟩
end Go.Proofs.YtjkcooakddlppaaGreat
/- What comes and what goes: what may be may be then; the second time nothing changes; other items stay. Plain mathematics, no walk. -/
namespace Go.Proofs.YtjkcooakddlppaaGreat
set_option linter.unusedVariables false
set_option linter.unusedSimpArgs false
set_option maxRecDepth 100000
open Go Go.RowKit
theorem comes_iff {s : St} {x : Itm} : comesB s x = true ↔ mayT x = true ∧ (x.r = s.r → x.c ≤ s.count) := by
  unfold comesB
  rw [Bool.and_eq_true, Bool.or_eq_true, Bool.not_eq_true', decide_eq_false_iff_not, decide_eq_true_eq]
  constructor
  · rintro ⟨h1, h2⟩; exact ⟨h1, fun e => h2.elim (fun h => absurd e h) id⟩
  · rintro ⟨h1, h2⟩
    refine ⟨h1, ?_⟩
    by_cases e : x.r = s.r
    · exact .inr (h2 e)
    · exact .inl e
theorem pre_good {s : St} {x : Itm} (h : Good s) (hc : comesB s x = true) : Good (preR s x) := by
  obtain ⟨h1, h2⟩ := comes_iff.1 hc
  have m := mayT_iff.1 h1
  have ht := h.t
  have so : ∀ w i, Stood s w i → Stood (preR s x) w i := fun w i hi => ⟨hi.has, with_was _ _ _ _ _ _ _ hi.knows, by have := hi.stamp; show i.st ≤ max s.clock x.st; omega⟩
  exact ⟨h.f, h.st, h.ou, mayK_with h.k m.1 ⟨by omega, by omega⟩, h.r, h.n, h.c, by show 0 ≤ max s.clock x.st ∧ max s.clock x.st ≤ 1000000; omega, h.e, h.tw, fun i hi => so _ i (h.si i hi), fun i hi => so _ i (h.so i hi), beyS_plain h.c.1 (beyS_with h.c.1 h.b h2 (by omega) m.2.2.1)⟩
theorem laid_mem_s {s : St} {x i : Itm} : i ∈ laidStore s x ↔ (i ∈ s.store ∧ i.id ≠ x.id) ∨ (i = x ∧ hasT s.f x = true) := by
  unfold laidStore
  cases hh : hasT s.f x with
  | true =>
    rw [if_pos rfl, mem_put, mem_drop]
    constructor
    · rintro (e | ⟨⟨e1, e2⟩, _⟩)
      · exact .inr ⟨e, rfl⟩
      · exact .inl ⟨e1, e2⟩
    · rintro (⟨e1, e2⟩ | ⟨e, _⟩)
      · exact .inr ⟨⟨e1, e2⟩, e2⟩
      · exact .inl e
  | false =>
    rw [if_neg (by simp), mem_drop]
    constructor
    · rintro ⟨e1, e2⟩; exact .inl ⟨e1, e2⟩
    · rintro (⟨e1, e2⟩ | ⟨_, e⟩)
      · exact ⟨e1, e2⟩
      · cases e
theorem laid_out {s : St} {x : Itm} : laidOut s x false = s.out.filter (neB x.id) := by
  unfold laidOut
  split
  · rfl
  · rw [if_neg (by decide)]
theorem laid_mem_o {s : St} {x i : Itm} : i ∈ laidOut s x false ↔ i ∈ s.out ∧ i.id ≠ x.id := by rw [laid_out, mem_drop]
theorem laid_good {s : St} {x : Itm} (h : Good s) (hx : mayT x = true) (hk : hasK s.k x.id x.r x.c = true) (hst : x.st ≤ s.clock) (hroom : hasT s.f x = true → (standsS s x.id).2 = true ∨ s.store.length + s.out.length < 40) : Good (laidS s x false) := by
  have so : ∀ w i, Stood s w i → Stood (laidS s x false) w i := fun w i hi => ⟨hi.has, hi.knows, hi.stamp⟩
  refine ⟨h.f, ?_, ?_, h.k, h.r, ?_, h.c, h.t, h.e, fun i hi j hj => ?_, fun i hi => ?_, fun i hi => ?_, h.b⟩
  · show mayLB (laidStore s x) = true
    unfold laidStore
    split
    · exact may_put (may_filter h.st) hx
    · exact may_filter h.st
  · show mayLB (laidOut s x false) = true
    rw [laid_out]; exact may_filter h.ou
  · show (laidStore s x).length + (laidOut s x false).length ≤ 40
    rw [laid_out]
    have hn := h.n
    have f1 := filt_le s.store x.id
    have f2 := filt_le s.out x.id
    have p1 := putI_len (s.store.filter (neB x.id)) x
    unfold laidStore
    split
    · rename_i hh
      have hd : (s.store.filter (neB x.id)).length + (s.out.filter (neB x.id)).length + 1 ≤ 40 := by
        rcases stands_or h x.id with ⟨i, hi, e, hq⟩ | ⟨i, hi, e, hq⟩ | ⟨_, _, hq⟩
        · have := filt_lt ⟨i, hi, e⟩; omega
        · have := filt_lt ⟨i, hi, e⟩; omega
        · rcases hroom hh with hr | hr
          · rw [hq] at hr; cases hr
          · omega
      omega
    · omega
  · have a := laid_mem_o.1 hi
    rcases laid_mem_s.1 hj with ⟨b1, b2⟩ | ⟨b1, b2⟩
    · exact h.tw i a.1 j b1
    · rw [b1]; exact fun e => a.2 e.symm
  · rcases laid_mem_s.1 hi with ⟨a1, _⟩ | ⟨a1, a2⟩
    · exact so _ i (h.si i a1)
    · rw [a1]; exact ⟨a2, hk, hst⟩
  · exact so _ i (h.so i (laid_mem_o.1 hi).1)
theorem pre_hasK {s : St} {x : Itm} (hx : mayT x = true) : hasK (preR s x).k x.id x.r x.c = true := by
  have m := mayT_iff.1 hx
  exact with_right _ _ m.2.2.1.1 m.2.2.1.2 m.2.2.2.1.1
theorem full_room {s : St} {x : Itm} (h : Good s) (hn : newB s x = true) (hf : fullR s x = false) : hasT s.f x = true → (standsS s x.id).2 = true ∨ s.store.length + s.out.length < 40 := fun hh => by
  cases hs : (standsS s x.id).2
  · right
    have := h.n
    unfold fullR at hf
    rw [hn, hh, hs] at hf
    have : ¬ (s.store.length + s.out.length = 40) := by simpa using hf
    omega
  · exact .inl rfl
theorem recv_cases {s : St} {x : Itm} (h : Good s) :
    (recvS s x = s ∧ (recvE s x ≠ 0 ∨ (recvE s x = 0 ∧ comesB s x = true ∧ hasK s.k x.id x.r x.c = true))) ∨
    (recvE s x = 0 ∧ comesB s x = true ∧ hasK s.k x.id x.r x.c = false ∧ newB s x = false ∧ recvS s x = preR s x) ∨
    (recvE s x = 0 ∧ comesB s x = true ∧ hasK s.k x.id x.r x.c = false ∧ newB s x = true ∧ fullR s x = false ∧ recvS s x = laidS (preR s x) x false) := by
  unfold recvS recvE
  cases hc : comesB s x
  · left; simp
  · cases hk : hasK s.k x.id x.r x.c
    · cases hf : fullR s x
      · cases hn : newB s x
        · right; left; simp
        · right; right; simp
      · left; simp
    · left; simp
theorem laid_pre_good {s : St} {x : Itm} (h : Good s) (hc : comesB s x = true) (hn : newB s x = true) (hf : fullR s x = false) : Good (laidS (preR s x) x false) :=
  laid_good (pre_good h hc) (comes_iff.1 hc).1 (pre_hasK (comes_iff.1 hc).1) (by show x.st ≤ max s.clock x.st; omega) (show hasT s.f x = true → (standsS s x.id).2 = true ∨ s.store.length + s.out.length < 40 from full_room h hn hf)
theorem recv_good {s : St} {x : Itm} (h : Good s) : Good (recvS s x) := by
  rcases recv_cases (x := x) h with ⟨e, _⟩ | ⟨_, hc, _, _, e⟩ | ⟨_, hc, _, hn, hf, e⟩
  · rw [e]; exact h
  · rw [e]; exact pre_good h hc
  · rw [e]; exact laid_pre_good h hc hn hf
theorem recv_err {s : St} {x : Itm} (h : Good s) (he : recvE s x ≠ 0) : recvS s x = s := by
  rcases recv_cases (x := x) h with ⟨e, _⟩ | ⟨h0, _⟩ | ⟨h0, _⟩
  · exact e
  · exact absurd h0 he
  · exact absurd h0 he
theorem recv_le {s : St} {x : Itm} : 0 ≤ recvE s x ∧ recvE s x ≤ 10 := by
  unfold recvE
  split
  · split
    · omega
    · split <;> omega
  · omega
theorem recv_knows {s : St} {x : Itm} (h : Good s) (he : recvE s x = 0) : comesB s x = true ∧ hasK (recvS s x).k x.id x.r x.c = true := by
  rcases recv_cases (x := x) h with ⟨e, h0⟩ | ⟨_, hc, _, _, e⟩ | ⟨_, hc, _, hn, hf, e⟩
  · rcases h0 with h0 | ⟨_, h1, h2⟩
    · exact absurd he h0
    · rw [e]; exact ⟨h1, h2⟩
  · rw [e]; exact ⟨hc, pre_hasK (comes_iff.1 hc).1⟩
  · rw [e]; exact ⟨hc, pre_hasK (comes_iff.1 hc).1⟩
theorem recv_same {s : St} {x : Itm} (hc : comesB s x = true) (hk : hasK s.k x.id x.r x.c = true) : recvS s x = s ∧ recvE s x = 0 := by simp [recvS, recvE, hc, hk]
theorem recv_rc {s : St} {x : Itm} (h : Good s) : (recvS s x).r = s.r ∧ (recvS s x).count = s.count ∧ (recvS s x).f = s.f := by
  rcases recv_cases (x := x) h with ⟨e, _⟩ | ⟨_, _, _, _, e⟩ | ⟨_, _, _, _, _, e⟩ <;> rw [e] <;> exact ⟨rfl, rfl, rfl⟩
theorem comes_as {s t : St} {x : Itm} (hr : t.r = s.r) (hc : t.count = s.count) : comesB t x = comesB s x := by unfold comesB; rw [hr, hc]
theorem recv_twice {s : St} {x : Itm} (h : Good s) (he : recvE s x = 0) : recvS (recvS s x) x = recvS s x ∧ recvE (recvS s x) x = 0 := by
  obtain ⟨h1, h2⟩ := recv_knows h he
  obtain ⟨r1, r2, _⟩ := recv_rc (x := x) h
  exact recv_same (by rw [comes_as r1 r2]; exact h1) h2
/-! ### What goes -/
theorem drop_good {s : St} {id : ByteArray} (h : Good s) : Good (dropS s id) := by
  have so : ∀ w i, Stood s w i → Stood (dropS s id) w i := fun w i hi => ⟨hi.has, hi.knows, hi.stamp⟩
  refine ⟨h.f, may_filter h.st, h.ou, h.k, h.r, ?_, h.c, h.t, h.e, fun i hi j hj => h.tw i hi j (mem_drop.1 hj).1, fun i hi => so _ i (h.si i (mem_drop.1 hi).1), fun i hi => so _ i (h.so i hi), h.b⟩
  have f1 := filt_le s.store id
  have := h.n
  show (s.store.filter (neB id)).length + s.out.length ≤ 40
  omega
theorem ver_iff {r c : Int} : verB r c = true ↔ (1 ≤ r ∧ r ≤ 8) ∧ (1 ≤ c ∧ c ≤ 1000) := by
  unfold verB
  rw [Bool.and_eq_true, inB_iff, inB_iff]
theorem know_good {s : St} {id : ByteArray} {r c : Int} (h : Good s) (hid : nameB id = true) (hv : verB r c = true) (hc : r ≠ s.r ∨ c ≤ s.count) : Good ⟨s.r, s.f, s.store, s.out, goesK s id r c, s.count, s.clock, s.epoch⟩ := by
  have m := ver_iff.1 hv
  have so : ∀ w i, Stood s w i → Stood ⟨s.r, s.f, s.store, s.out, goesK s id r c, s.count, s.clock, s.epoch⟩ w i := fun w i hi => ⟨hi.has, with_was _ _ _ _ _ _ _ hi.knows, hi.stamp⟩
  exact ⟨h.f, h.st, h.ou, mayK_with h.k hid ⟨by omega, by omega⟩, h.r, h.n, h.c, h.t, h.e, h.tw, fun i hi => so _ i (h.si i hi), fun i hi => so _ i (h.so i hi), beyS_plain h.c.1 (beyS_with h.c.1 h.b (fun e => hc.elim (fun h => absurd e h) (fun h => h)) (by omega) m.1)⟩
theorem goes_cases {s : St} {id : ByteArray} {r c r2 q2 : Int} (h : Good s) :
    goesS s id r c r2 q2 = s ∨ (nameB id = true ∧ goesS s id r c r2 q2 = dropS s id) ∨ (nameB id = true ∧ verB r2 q2 = true ∧ (r2 ≠ s.r ∨ q2 ≤ s.count) ∧ goesS s id r c r2 q2 = ⟨s.r, s.f, s.store.filter (neB id), s.out, goesK s id r2 q2, s.count, s.clock, s.epoch⟩) := by
  unfold goesS
  split
  · rename_i hw
    obtain ⟨i, hi, e⟩ := get_is.1 hw.1
    have hid : nameB id = true := by rw [← e]; exact (mayT_iff.1 ((mayLB_iff.1 h.st).1 i hi)).1
    split
    · rename_i hv; exact .inr (.inr ⟨hid, hv.1, hv.2, rfl⟩)
    · exact .inr (.inl ⟨hid, rfl⟩)
  · exact .inl rfl
theorem goes_good {s : St} {id : ByteArray} {r c r2 q2 : Int} (h : Good s) : Good (goesS s id r c r2 q2) := by
  rcases goes_cases (id := id) (r := r) (c := c) (r2 := r2) (q2 := q2) h with e | ⟨_, e⟩ | ⟨h1, h2, h3, e⟩
  · rw [e]; exact h
  · rw [e]; exact drop_good h
  · rw [e]; exact know_good (drop_good (id := id) h) h1 h2 h3
theorem goes_knows {s : St} {id : ByteArray} {r c r2 q2 : Int} (h : Good s) {x : Itm} (hk : hasK s.k x.id x.r x.c = true) : hasK (goesS s id r c r2 q2).k x.id x.r x.c = true ∧ (goesS s id r c r2 q2).r = s.r ∧ (goesS s id r c r2 q2).count = s.count := by
  rcases goes_cases (id := id) (r := r) (c := c) (r2 := r2) (q2 := q2) h with e | ⟨_, e⟩ | ⟨h1, h2, h3, e⟩
  · rw [e]; exact ⟨hk, rfl, rfl⟩
  · rw [e]; exact ⟨hk, rfl, rfl⟩
  · rw [e]; exact ⟨with_was _ _ _ _ _ _ _ hk, rfl, rfl⟩
theorem recv_back {s : St} {x : Itm} {r c r2 q2 : Int} (h : Good s) (he : recvE s x = 0) : recvS (goesS (recvS s x) x.id r c r2 q2) x = goesS (recvS s x) x.id r c r2 q2 ∧ recvE (goesS (recvS s x) x.id r c r2 q2) x = 0 := by
  obtain ⟨h1, h2⟩ := recv_knows h he
  obtain ⟨r1, r2', _⟩ := recv_rc (x := x) h
  obtain ⟨k1, k2, k3⟩ := goes_knows (id := x.id) (r := r) (c := c) (r2 := r2) (q2 := q2) (recv_good h) h2
  exact recv_same (by rw [comes_as (k2.trans r1) (k3.trans r2')]; exact h1) k1
theorem recv_other {s : St} {x : Itm} (h : Good s) {id : ByteArray} (hid : id ≠ x.id) : standsS (recvS s x) id = standsS s id := by
  have hg := recv_good (x := x) h
  rcases recv_cases (x := x) h with ⟨e, _⟩ | ⟨_, _, _, _, e⟩ | ⟨_, _, _, _, _, e⟩
  · rw [e]
  · rw [e]; rfl
  · rw [e] at hg ⊢
    refine stands_ext hg h fun i ei => ?_
    have hne : i.id ≠ x.id := by rw [ei]; exact hid
    have hnx : i ≠ x := fun q => hne (by rw [q])
    rw [show (laidS (preR s x) x false).store = laidStore (preR s x) x from rfl, show (laidS (preR s x) x false).out = laidOut (preR s x) x false from rfl, laid_mem_s, laid_mem_o]
    constructor
    · rintro ((⟨a, _⟩ | ⟨a, _⟩) | ⟨a, _⟩)
      · exact .inl a
      · exact absurd a hnx
      · exact .inr a
    · rintro (a | a)
      · exact .inl (.inl ⟨a, hne⟩)
      · exact .inr ⟨a, hne⟩
theorem recv_best {s : St} {x : Itm} (h : Good s) (he : recvE s x = 0) (hk : hasK s.k x.id x.r x.c = false) (hs : (standsS (recvS s x) x.id).2 = true) : behT x (standsS (recvS s x) x.id).1 = false := by
  have hg := recv_good (x := x) h
  rcases recv_cases (x := x) h with ⟨_, h0⟩ | ⟨_, _, _, hn, e⟩ | ⟨_, _, _, _, _, e⟩
  · rcases h0 with h0 | ⟨_, _, h2⟩
    · exact absurd he h0
    · rw [hk] at h2; cases h2
  · rw [e]
    show behT x (standsS s x.id).1 = false
    unfold newB at hn
    rw [Bool.or_eq_false_iff] at hn
    exact hn.2
  · rw [e] at hs hg ⊢
    rcases stands_or hg x.id with ⟨i, hi, ei, hq⟩ | ⟨i, hi, ei, hq⟩ | ⟨_, _, hq⟩
    · rw [hq]
      rcases laid_mem_s.1 hi with ⟨_, b⟩ | ⟨b, _⟩
      · exact absurd ei b
      · rw [b]
        exact beh_self x
    · exact absurd ei (laid_mem_o.1 hi).2
    · rw [hq] at hs; cases hs
/-! ### How much is known -/
theorem recv_flat {s : St} {x : Itm} (h : Good s) : (flatI (recvS s x).k.l).length ≤ (flatI s.k.l).length + 1 ∧ (recvS s x).k.l.length ≤ max s.k.l.length ((flatI s.k.l).length + 1) := by
  have h1 := plain_small (withK s.k x.id x.r x.c)
  rw [flat_with] at h1
  rcases recv_cases (x := x) h with ⟨e, _⟩ | ⟨_, _, _, _, e⟩ | ⟨_, _, _, _, _, e⟩
  · rw [e]; omega
  · rw [e]; exact ⟨h1.1, Nat.le_trans h1.2 (by omega)⟩
  · rw [e]; exact ⟨h1.1, Nat.le_trans h1.2 (by omega)⟩
theorem goes_flat {s : St} {id : ByteArray} {r c r2 q2 : Int} (h : Good s) : (flatI (goesS s id r c r2 q2).k.l).length ≤ (flatI s.k.l).length + 1 ∧ (goesS s id r c r2 q2).k.l.length ≤ max s.k.l.length ((flatI s.k.l).length + 1) := by
  have h1 := plain_small (withK s.k id r2 q2)
  rw [flat_with] at h1
  rcases goes_cases (id := id) (r := r) (c := c) (r2 := r2) (q2 := q2) h with e | ⟨_, e⟩ | ⟨_, _, _, e⟩
  · rw [e]; omega
  · rw [e]; show (flatI s.k.l).length ≤ _ ∧ s.k.l.length ≤ _; omega
  · rw [e]; exact ⟨h1.1, Nat.le_trans h1.2 (by omega)⟩
end Go.Proofs.YtjkcooakddlppaaGreat
/- The code's filter of layer 9: the walks. -/
namespace Go.Proofs.YtjkcooakddlppaaGreat
set_option linter.unusedVariables false
set_option linter.unusedSimpArgs false
set_option maxRecDepth 100000
open Go.RowKit
end Go.Proofs.YtjkcooakddlppaaGreat
