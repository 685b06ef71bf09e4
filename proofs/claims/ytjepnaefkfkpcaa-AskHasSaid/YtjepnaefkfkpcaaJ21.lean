/- Joined: LocF, StGood, StGood2, FreA, LocF2. -/
import Derived.Test.YtjepnaefkfkpcaaJ18
import Derived.Test.YtjepnaefkfkpcaaJ20
import Derived.Deep.RegionHeld3
import Derived.Test.YtjepnaefkfkpcaaJ13
import Derived.Laws.EntriesVeiled
/- The code's filter of layer 9: a filter in new memory. Walked. -/
namespace Go.Proofs.Ytjepnaefkfkpcaa
set_option linter.unusedVariables false
set_option linter.unusedSimpArgs false
set_option maxRecDepth 100000
open Go.RowKit
/-! ### Worlds that grew, but for one block -/
theorem gr_cell {a w : World} {row : Option Nat} (h : a.grownBy w row) {b : Nat} (hb : b < a.heap.size) (hne : some b ≠ row) (o : Nat) : w.cell? ⟨b, o, none⟩ = a.cell? ⟨b, o, none⟩ := World.cell?_of_block (h.block b hb hne)
theorem LPF.grown {w w' : World} {B : Nat} {p : Pr} {v : Value} {b : Nat} (h : LPF w B p v) (hg : w.grownBy w' (some b)) (hb : b < B) : LPF w' B p v :=
  h.mono (fun k o hS => gr_cell hg hS.2 (by simp only [ne_eq, Option.some.injEq]; have := hS.1; omega) o) fun k hS => ⟨hS.1, Nat.lt_of_lt_of_le hS.2 hg.size⟩
/-! ### A row's element set anew -/
def setL : List Value → Nat → List Value → List Value
  | xs, _, [] => xs
  | xs, o, v :: vs => setL (xs.set o v) (o + 1) vs
theorem row_sets {base n size g cap : Nat} {e : TypeId} (vs : List Value) : ∀ {w : World} {xs : List Value} (o : Nat), w.ownsRow base e size (.slice (some ⟨g, 0, none⟩) n cap) n xs → o + vs.length ≤ n * size → (w.setCells g o vs).ownsRow base e size (.slice (some ⟨g, 0, none⟩) n cap) n (setL xs o vs) := by
  induction vs with
  | nil => intro w xs o h _; exact h
  | cons v vs ih =>
    intro w xs o h hl
    simp only [List.length_cons] at hl
    exact ih (o + 1) (row_set h v (by omega)) (by omega)
theorem set_same {α : Type} {xs : List α} {k : Nat} {x : α} (h : xs[k]? = some x) : xs.set k x = xs := by
  apply List.ext_getElem?
  intro j
  rw [List.getElem?_set]
  split
  · rename_i e
    subst e
    split
    · exact h.symm
    · rename_i hn; rw [List.getElem?_eq_none (by omega)]
  · rfl
theorem news_set4 (V : Nat → Value) (l : List Pr) : ∀ (s a : Nat) (p : Pr) (v : Value), l[a]? = some p → newsOf (updU V (s + a) v) s l = (newsOf V s l).set (a * 5 + 4) v := by
  induction l with
  | nil => intro s a p v h; simp at h
  | cons q l ih =>
    intro s a p v h
    cases a with
    | zero =>
      simp at h; subst h
      rw [newsOf, newsOf, Nat.zero_mul, Nat.zero_add, Nat.add_zero, updU_same]
      rw [news_congr (V := updU V s v) (W := V) (s := s + 1) (s' := s + 1) (l := l) (fun i _ => updU_far _ _ (by omega))]
      simp [pc]
    | succ a =>
      simp at h
      rw [newsOf, newsOf, updU_far _ _ (by omega)]
      have e : (pc q (V s)).length = 5 := rfl
      rw [List.set_append_right _ _ (by rw [e]; omega), e, show (a + 1) * 5 + 4 - 5 = a * 5 + 4 by omega, ← ih (s + 1) a p v h, show s + 1 + a = s + (a + 1) by omega]
theorem news_setL (V : Nat → Value) (l : List Pr) (a : Nat) (p : Pr) (v : Value) (h : l[a]? = some p) : setL (newsOf V 0 l) (a * 5) (pc p v) = newsOf (updU V a v) 0 l := by
  have g := fun j (hj : j < 4) => (news_get V 0 l a p h j (by omega))
  have e := news_set4 V l 0 a p v h
  rw [Nat.zero_add] at e g
  rw [e]
  rw [show setL (newsOf V 0 l) (a * 5) (pc p v) = ((((((newsOf V 0 l).set (a * 5) (.int .i64 p.op)).set (a * 5 + 1) (.string p.text)).set (a * 5 + 1 + 1) (.int .i64 p.n)).set (a * 5 + 1 + 1 + 1) (.complex .f64 p.x p.y)).set (a * 5 + 1 + 1 + 1 + 1) v) from rfl]
  rw [set_same (k := a * 5) (by have := g 0 (by omega); simpa [pc] using this), set_same (k := a * 5 + 1) (by have := g 1 (by omega); simpa [pc] using this), set_same (k := a * 5 + 1 + 1) (by have := g 2 (by omega); simpa [pc] using this), set_same (k := a * 5 + 1 + 1 + 1) (by have := g 3 (by omega); simpa [pc] using this)]
/-! ### What the closure has -/
theorem row_pc {w : World} {base g len c k j : Nat} {kids : List Pr} {V : Nat → Value} {q : Pr} {u : Value} (h : w.ownsRow base 39 5 (.slice (some ⟨g, 0, none⟩) len c) len (newsOf V 0 kids)) (hlen : kids.length = len) (hq : kids[k]? = some q) (hlt : k < len) (hu : (pc q (V k))[j]? = some u) : w.cell? ⟨g, k * 5 + j, none⟩ = some u := by
  have hj : j < 5 := (List.getElem?_eq_some_iff.1 hu).1
  rw [h.cellAt (k * 5 + j) (by omega), news_get _ _ _ _ _ hq _ hj, Nat.zero_add]
  exact hu
theorem Own.far5 {w : World} {b g : Nat} {c : Array Value} {t : TypeId} (h : Own w b c t) (hne : b ≠ g) (o0 o1 o2 o3 o4 : Nat) (c0 c1 c2 c3 c4 : Value) : Own (((((w.setCell ⟨g, o0, none⟩ c0).setCell ⟨g, o1, none⟩ c1).setCell ⟨g, o2, none⟩ c2).setCell ⟨g, o3, none⟩ c3).setCell ⟨g, o4, none⟩ c4) b c t :=
  ((((h.setFar _ _ hne).setFar _ _ hne).setFar _ _ hne).setFar _ _ hne).setFar _ _ hne
theorem LPF.setsAt {B b : Nat} {p : Pr} {v : Value} (hb : b < B) (vs : List Value) : ∀ {w : World} (o : Nat), LPF w B p v → LPF (w.setCells b o vs) B p v := by
  induction vs with
  | nil => intro w o h; exact h
  | cons u vs ih =>
    intro w o h
    exact ih (o + 1) (h.mono (fun b' o' hS => World.cell?_setCell_other _ _ _ _ (fun e => by have := hS.1; have : b = b' := congrArg Addr.block e; omega)) fun _ hS => ⟨hS.1, by simpa [World.setCell] using hS.2⟩)
theorem row_base {w : World} {base base' size n : Nat} {e : TypeId} {v : Value} {xs : List Value} (h : w.ownsRow base e size v n xs) (hb : base' ≤ base) : w.ownsRow base' e size v n xs := by
  obtain ⟨h1, h2⟩ := h
  refine ⟨h1, ?_⟩
  rcases h2 with h2 | ⟨g, cap, cur, hv, hg, r⟩
  · exact .inl h2
  · exact .inr ⟨g, cap, cur, hv, Nat.le_trans hb hg, r⟩
theorem size_sets {b : Nat} (vs : List Value) : ∀ {w : World} (o : Nat), (w.setCells b o vs).heap.size = w.heap.size := by
  induction vs with
  | nil => intro w o; rfl
  | cons v vs ih => intro w o; exact (ih (o + 1)).trans (by simp [World.setCell])
end Go.Proofs.Ytjepnaefkfkpcaa
/- States that may be: what is made of them may be. Plain mathematics, no walk. -/
namespace Go.Proofs.Ytjepnaefkfkpcaa
set_option linter.unusedVariables false
set_option linter.unusedSimpArgs false
set_option maxRecDepth 100000
open Go.RowKit
/-! ### What is known, made plain: what its pieces are -/
/-! ### A state that may be -/
/-! ### What stands -/
end Go.Proofs.Ytjepnaefkfkpcaa
/- States that may be: what stands in what is made of them; another filter. Plain mathematics, no walk. -/
namespace Go.Proofs.Ytjepnaefkfkpcaa
set_option linter.unusedVariables false
set_option linter.unusedSimpArgs false
set_option maxRecDepth 100000
open Go.RowKit
/-! ### Another filter -/
/-! ### A state is the same as itself; another count, or epoch, is another state -/
end Go.Proofs.Ytjepnaefkfkpcaa
/- The code's fresh: how many parts are left, a filter in new memory. Walked. -/
namespace Go.Proofs.Ytjepnaefkfkpcaa
set_option linter.unusedVariables false
set_option linter.unusedSimpArgs false
set_option maxRecDepth 100000
open Go.RowKit
def FleRel (l : List Pr) (len : Nat) (n : Int) (w0 : World) (most i : Value) (wr : World) : Prop :=
  ∃ (k : Nat) (r : Int), k ≤ len ∧ i = .int .i64 k ∧ most = .int .i64 r ∧ r ≤ 100000000 ∧ Hid (r = n - (1 + Pr.sizes (l.take k) : Nat)) ∧ Below w0.heap.size w0 wr
set_option maxHeartbeats 1000000 in
theorem freLeft_calls (p : Pr) : ∀ (v : Value) (n : Int) (w : World), LP w p v → (p.size : Int) ≤ n → n ≤ 100000000 →
    Calls Try.prog 43 #[prV p v, .int .i64 n] w fun e w' => e = .returned (.int .i64 (n - p.size)) ∧ Below w.heap.size w w' := by
  induction p using Pr.ind with
  | h op t nn x y kids ih =>
    intro v n w hL h1 h2
    obtain ⟨oa, cap, b, o, V, rfl, ht, hl, hc, hn, hcell, hrec⟩ := lies_slice hL
    simp only [prV, Pr.kids_node, Pr.text_node, Pr.op_node, Pr.n_node, Pr.x_node, Pr.y_node, Pr.size] at *
    unfold maxLen at hc
    have hpos := Pr.len_le_sizes kids
    have HC := Lib.hid hcell
    have HR := Lib.hid hrec
    have HN := Lib.hid hn
    have HI := Lib.hid ih
    clear hL hcell hrec hn ih
    generalize hlen : kids.length = len at *
    have HLEN := Lib.hid hlen
    clear hlen
    go_enter Try.func43, Try.ntmps43
    go_wp2_with fail
    go_loopw [1, 12] (fun most i wr => FleRel kids len n (w.alloc (.cells #[.int .i64 op, .string t, .int .i64 nn, .complex .f64 x y, .slice oa len cap] 39)) most i wr) (fun _ i _ => len - (intOf i).toNat)
    case atStart => exact ⟨0, n - 1, Nat.zero_le _, rfl, rfl, by omega, by simp [Hid, Pr.sizes], Below.refl _ _⟩
    case round =>
      obtain ⟨k, r, hk, rfl, rfl, hr1, HRr, hb⟩ := hrel
      by_cases hlt : k < len
      · obtain ⟨q, hq⟩ : ∃ q, kids[k]? = some q := ⟨_, List.getElem?_eq_getElem (by rw [HLEN.out]; exact hlt)⟩
        obtain ⟨rfl, hS⟩ := HN.out (by omega)
        have hbw : Below w.heap.size w wr := ((Below.refl _ _).alloc (Nat.le_refl _) _).trans (hb.mono (by simp))
        obtain ⟨oq, cq, hV⟩ := lies_val (HR.out k q hq)
        obtain ⟨c0, c1, c2, c3, c4⟩ := pc_cells (w := wr) (fun j u hu => (hbw.cell (p := ⟨b, o + k * 5 + j, none⟩) hS).trans (HC.out k q hq j u hu))
        have L0 := HR.out k q hq
        rw [hV] at c4 L0
        have h3 := Pr.sizes_take hq
        have h4 : Pr.sizes kids = Pr.sizes (kids.take (k + 1)) + Pr.sizes (kids.drop (k + 1)) := by rw [← Pr.sizes_append, List.take_append_drop]
        have h5 := HRr.out
        have h6 := Pr.size_pos q
        have hr0 : 0 ≤ r := by omega
        have g0 : decide (r < 0) = false := decide_eq_false (by omega)
        have CC := Lib.hid (HI.out q (List.mem_of_getElem? hq) (.slice oq q.kids.length cq) r (wr.alloc (.cells #[.int .i64 q.op, .string q.text, .int .i64 q.n, .complex .f64 q.x q.y, .slice oq q.kids.length cq] 39)) ((L0.later hbw (Nat.le_refl _)).atAlloc _) (by omega) (by omega))
        have HB := Lib.hid hb
        have HQ := Lib.hid hq
        have zb : b < wr.heap.size := Nat.lt_of_lt_of_le hS hbw.size
        clear hb hbw hq L0 h3 h4 h5 h6 hS
        go_wp2_with (go_at_call 43; refine CC.out.mono ?_; rintro e w' ⟨rfl, hb'⟩)
        have h3 := Pr.sizes_take HQ.out
        have h5 := HRr.out
        go_roundw
        case rel => exact ⟨k + 1, r - q.size, by omega, by go_num, rfl, by omega, by unfold Hid; rw [h3]; omega, (HB.out.alloc HB.out.size _).trans (hb'.mono (Nat.le_trans HB.out.size (by simp)))⟩
        case measure => simp [intOf]; omega
      · have HB := Lib.hid hb
        clear hb
        have e : k = len := by omega
        have h5 := HRr.out
        rw [Pr.take_all kids (by rw [HLEN.out]; omega)] at h5
        have H5 := Lib.hid h5
        clear h5 e
        go_wp2_with fail
        go_ret
        have h5 := H5.out
        exact ⟨ret_int (by exact h5), below_new HB.out⟩
structure FiS (w : World) (kids : List Pr) (X Z : Array Value) (V : Nat → Value) (rv : Value) (g k : Nat) (V' : Nat → Value) (wr : World) : Prop where
  x : Own wr w.heap.size X 39
  z : Own wr (w.heap.size + 1) Z 39
  row : wr.ownsRow (w.heap.size + 2) 39 5 rv kids.length (newsOf V' 0 kids)
  done : ∀ i q, i < k → kids[i]? = some q → LPF wr (g + 1) q (V' i)
  left : ∀ i, k ≤ i → V' i = V i
  be : Below w.heap.size w wr
def FiRel (w : World) (kids : List Pr) (len : Nat) (X Z : Array Value) (V : Nat → Value) (rv : Value) (g : Nat) (i : Value) (wr : World) : Prop :=
  ∃ (k : Nat) (V' : Nat → Value), k ≤ len ∧ i = .int .i64 k ∧ Hid (FiS w kids X Z V rv g k V' wr)
set_option maxHeartbeats 1000000 in
theorem FiS.step {w wr w8 : World} {kids : List Pr} {X Z : Array Value} {V V' : Nat → Value} {len cap g k : Nat} {q : Pr} {v8 : Value} {C : Array Value} (h : FiS w kids X Z V (.slice (some ⟨g, 0, none⟩) len cap) g k V' wr) (hlen : kids.length = len)
    (hg : w.heap.size + 2 ≤ g) (hgl : g < wr.heap.size) (hq : kids[k]? = some q)
    (hL : LPF w8 (wr.alloc (.cells C 39)).heap.size q v8) (hb : Below (wr.alloc (.cells C 39)).heap.size (wr.alloc (.cells C 39)) w8) :
    FiS w kids X Z V (.slice (some ⟨g, 0, none⟩) len cap) g (k + 1) (updU V' k v8) (w8.setCells g (k * 5) (pc q v8)) := by
  have hk := some_pos hq
  have hs : wr.heap.size ≤ (wr.alloc (.cells C 39)).heap.size := by simp
  have hb8 : Below wr.heap.size wr w8 := ((Below.refl _ _).alloc (Nat.le_refl _) _).trans (hb.mono hs)
  refine ⟨?_, ?_, ?_, ?_, ?_, ?_⟩
  · exact (h.x.later hb8).setsFar _ _ (by omega)
  · exact (h.z.later hb8).setsFar _ _ (by omega)
  · rw [← news_setL V' kids k q v8 hq]
    have hr := ownsRow_below h.row hb8
    subst hlen
    exact row_sets _ _ hr (by simp [pc]; omega)
  · intro i p hi hp
    by_cases e : i = k
    · subst e
      rw [hq] at hp; cases hp
      rw [updU_same]
      exact (hL.mono' (by simp; omega)).setsAt (by omega) _ _
    · rw [updU_far _ _ e]
      exact ((h.done i p (by omega) hp).later hb8).setsAt (by omega) _ _
  · intro i hi
    rw [updU_far _ _ (by omega)]
    exact h.left i (by omega)
  · exact below_sets (by omega) _ _ (h.be.trans (hb8.mono h.be.size))
theorem fiS_start {w w3 W2 : World} {kids : List Pr} {V : Nat → Value} {o3 : Option Addr} {len c3 g : Nat} {op : Int} {t : ByteArray} {nn : Int} {x y : Nat} {oa : Option Addr} {l0 cap : Nat} {Z : Array Value}
    (hx : Own w3 w.heap.size #[.int .i64 op, .string t, .int .i64 nn, .complex .f64 x y, .slice oa l0 cap] 39) (hz : Own w3 (w.heap.size + 1) Z 39) (hb : Below w.heap.size w w3)
    (hr : w3.ownsRow W2.heap.size 39 5 (.slice o3 len c3) len (newsOf V 0 kids)) (hW : w.heap.size + 2 ≤ W2.heap.size) (hlen : kids.length = len) :
    FiS w kids #[.int .i64 op, .string t, .int .i64 nn, .complex .f64 x y, .slice o3 len c3] Z V (.slice o3 len c3) g 0 V (w3.setCell ⟨w.heap.size, 4, none⟩ (.slice o3 len c3)) := by
  subst hlen
  refine ⟨?_, hz.setFar _ _ (by show w.heap.size + 1 ≠ w.heap.size; omega), ?_, fun i q hi => absurd hi (by omega), fun _ _ => rfl, hb.setCell (p := ⟨w.heap.size, 4, none⟩) (Nat.le_refl _) _⟩
  · simpa using hx.set 4 (.slice o3 kids.length c3)
  · exact ownsRow_setCell_below (row_base hr hW) (by show w.heap.size < w.heap.size + 2; omega) _
theorem FiS.fin {w wr : World} {kids : List Pr} {X Z : Array Value} {V V' : Nat → Value} {o3 : Option Addr} {len c3 g B3 B4 : Nat} {op : Int} {t : ByteArray} {nn : Int} {x y : Nat} (h : FiS w kids X Z V (.slice o3 len c3) g len V' wr) (hlen : kids.length = len)
    (hg : 0 < len → o3 = some ⟨g, 0, none⟩ ∧ B3 ≤ g ∧ g < B4) (hZ : 5 = Z.size) (ht : t.size ≤ maxLen) (h1 : len ≤ c3) (h2 : c3 ≤ maxLen) :
    Own (wr.setCells (w.heap.size + 1) 0 (pc (.node op t nn x y kids) (.slice o3 len c3))) (w.heap.size + 1) (pc (.node op t nn x y kids) (.slice o3 len c3)).toArray 39 ∧ LPF (wr.setCells (w.heap.size + 1) 0 (pc (.node op t nn x y kids) (.slice o3 len c3))) w.heap.size (.node op t nn x y kids) (.slice o3 len c3) ∧
      Below w.heap.size w (wr.setCells (w.heap.size + 1) 0 (pc (.node op t nn x y kids) (.slice o3 len c3))) := by
  generalize hvs : pc (.node op t nn x y kids) (.slice o3 len c3) = vs
  have hl5 : vs.length = Z.size := by rw [← hvs, ← hZ]; rfl
  have hsz : (wr.setCells (w.heap.size + 1) 0 vs).heap.size = wr.heap.size := size_sets _ _
  refine ⟨h.z.sets vs hl5, ?_, below_sets (by omega) _ _ h.be⟩
  have hrow := h.row
  rw [hlen] at hrow
  subst hlen
  refine .mk op t nn x y kids o3 c3 g 0 V' ht h1 h2 (fun h0 => ?_) (fun i q hq j u hu => ?_) (fun i q hq => ?_)
  · obtain ⟨rfl, _, _⟩ := hg h0
    have := hrow.lt g rfl
    exact ⟨rfl, by omega, by rw [hsz]; exact this.2⟩
  · have hi := some_pos hq
    obtain ⟨rfl, _, _⟩ := hg (by omega)
    have hlt := hrow.lt g rfl
    rw [World.cell?_setCells_out _ _ _ _ _ (fun e _ => by simp only at e; omega), Nat.zero_add]
    exact row_pc hrow rfl hq hi hu
  · have hi := some_pos hq
    obtain ⟨rfl, _, _⟩ := hg (by omega)
    have hlt := hrow.lt g rfl
    exact ((h.done i q hi hq).setsAt (by omega) vs 0).mono' (by omega)
theorem belowDrew' {B : Nat} {w w' : World} (h : Below B w.drew w') : Below B w w' := ⟨h.os, h.tape, h.output, h.size, h.block⟩
abbrev pZ : Array Value := #[.int .i64 0, .string ⟨#[]⟩, .int .i64 0, .complex .f64 0 0, .slice none 0 0]
set_option maxHeartbeats 4000000 in
theorem freFilter_calls (p : Pr) : ∀ (v : Value) (w : World), LP w p v → p.size ≤ 1000 →
    Calls Try.prog 44 #[prV p v] w fun e w' => ∃ v', e = .returned (prV p v') ∧ LPF w' w.heap.size p v' ∧ Below w.heap.size w w' := by
  induction p using Pr.ind with
  | h op t nn x y kids ih =>
    intro v w hL hs1
    obtain ⟨oa, cap, b, o, V, rfl, ht, hl, hc, hn, hcell, hrec⟩ := lies_slice hL
    simp only [prV, Pr.kids_node, Pr.text_node, Pr.op_node, Pr.n_node, Pr.x_node, Pr.y_node, Pr.size] at *
    have h1000 := Pr.len_le_sizes kids
    have OX := Lib.hid ((Own.new w #[.int .i64 op, .string t, .int .i64 nn, .complex .f64 x y, .slice oa kids.length cap] 39).alloc (.cells pZ 39))
    have OZ := Lib.hid (Own.newAt (w.alloc (.cells #[.int .i64 op, .string t, .int .i64 nn, .complex .f64 x y, .slice oa kids.length cap] 39)) pZ 39 (b := w.heap.size + 1) (by simp))
    have BE := Lib.hid (((Below.refl w.heap.size w).alloc (Nat.le_refl _) (.cells #[.int .i64 op, .string t, .int .i64 nn, .complex .f64 x y, .slice oa kids.length cap] 39)).alloc (by simp) (.cells pZ 39))
    have HC := Lib.hid hcell
    have HR := Lib.hid hrec
    have HN := Lib.hid hn
    have HI := Lib.hid ih
    have HT := Lib.hid ht
    have HCP := Lib.hid hc
    clear hL hcell hrec hn ih ht
    unfold maxLen at hc
    generalize hlen : kids.length = len at *
    have HLEN := Lib.hid hlen
    clear hlen
    have CLN := fun W2 (BE : Below w.heap.size w W2) => Lib.hid (cloneP_calls kids V oa cap b o W2 HCP.out (fun h => ⟨(HN.out (by rw [← HLEN.out]; exact h)).1, Nat.lt_of_lt_of_le (HN.out (by rw [← HLEN.out]; exact h)).2 BE.size⟩) (fun i p hp j u hu => (BE.cell (p := ⟨b, o + i * 5 + j, none⟩) (HN.out (by rw [← HLEN.out]; have := some_pos hp; omega)).2).trans (HC.out i p hp j u hu)) (fun i p hp => lies_one (HR.out i p hp)) (by rw [HLEN.out]; omega))
    rw [HLEN.out] at CLN
    have cx := OX.out.cell
    have fx := OX.out.free
    have zx := OX.out.lt
    go_enter Try.func44, Try.ntmps44
    go_upto_region 2 with (go_at_call 59; refine (CLN _ BE.out).out.mono ?_; rintro e w3 ⟨v3, rfl, hrow, hb3⟩; have hrow0 := Lib.hid hrow; obtain ⟨o3, c3, g, rfl, r1, r2, r3⟩ := row_slice hrow; clear cx fx zx hrow; have ZZ := Lib.hid OZ.out.lt; replace OX := Lib.hid (OX.out.later hb3); replace OZ := Lib.hid (OZ.out.later hb3); replace BE := Lib.hid (BE.out.trans (hb3.mono BE.out.size)); have HG := Lib.hid r3; have cx := OX.out.cell; have fx := OX.out.free; have zx := OX.out.lt; clear hb3 r3)
    unfold maxLen at r2
    have AS := Lib.hid (fiS_start (V := V) (kids := kids) (o3 := o3) (len := len) (c3 := c3) (g := g) (op := op) (t := t) (nn := nn) (x := x) (y := y) OX.out OZ.out BE.out hrow0.out ZZ.out HLEN.out)
    clear cx fx zx OX OZ BE hrow0 CLN
    revert AS
    generalize World.setCell w3 ⟨w.heap.size, 4, none⟩ (.slice o3 len c3) = W4
    intro AS
    have cx := AS.out.x.cell
    have zx := AS.out.x.lt
    go_wp2_with fail
    go_loopw [12] (fun i wr => FiRel w kids len #[.int .i64 op, .string t, .int .i64 nn, .complex .f64 x y, .slice o3 len c3] pZ V (.slice o3 len c3) g i wr) (fun i _ => len - (intOf i).toNat)
    case atStart => exact ⟨0, V, Nat.zero_le _, rfl, AS⟩
    case round =>
      clear AS cx zx
      obtain ⟨k, V', hk, rfl, AS⟩ := hrel
      by_cases hlt : k < len
      · obtain ⟨q, hq⟩ : ∃ q, kids[k]? = some q := ⟨_, List.getElem?_eq_getElem (by rw [HLEN.out]; exact hlt)⟩
        obtain ⟨rfl, _, _⟩ := HG.out (by omega)
        have hrow := AS.out.row
        rw [HLEN.out] at hrow
        have zg : w.heap.size + 2 ≤ g ∧ g < wr.heap.size := AS.out.row.lt g rfl
        obtain ⟨oq, cq, hV⟩ := lies_val (HR.out k q hq)
        have hVk : V' k = .slice oq q.kids.length cq := (AS.out.left k (Nat.le_refl _)).trans hV
        obtain ⟨c0, c1, c2, c3', c4⟩ := pc_cells (w := wr) (q := q) (v := V' k) (b := g) (o := k * 5) (fun j u hu => by
          have hj : j < 5 := (List.getElem?_eq_some_iff.1 hu).1
          rw [hrow.cellAt (k * 5 + j) (by omega), news_get _ _ _ _ _ hq _ hj, Nat.zero_add]
          exact hu)
        have L0 := ((HR.out k q hq).later AS.out.be (Nat.le_refl _)).atAlloc (.cells #[.int .i64 q.op, .string q.text, .int .i64 q.n, .complex .f64 q.x q.y, .slice oq q.kids.length cq] 39)
        rw [hV] at L0
        rw [hVk] at c4
        have hqs := Pr.size_mem (List.mem_of_getElem? hq)
        have CC := Lib.hid (HI.out q (List.mem_of_getElem? hq) (.slice oq q.kids.length cq) _ L0.atDrew (by omega))
        have HROW := Lib.hid hrow
        have HQ := Lib.hid hq
        have HVK := Lib.hid hVk
        have OX := Lib.hid (AS.out.x.alloc (.cells #[.int .i64 q.op, .string q.text, .int .i64 q.n, .complex .f64 q.x q.y, .slice oq q.kids.length cq] 39))
        have OQ := Lib.hid (Own.new wr #[.int .i64 q.op, .string q.text, .int .i64 q.n, .complex .f64 q.x q.y, .slice oq q.kids.length cq] 39)
        have hg1 : w.heap.size ≠ g := by omega
        have hg3 : wr.heap.size ≠ g := by omega
        have zg1 := zg.2
        clear L0 hV hVk hrow
        go_upto_region 5 with fail
        clear c0 c1 c2 c3' c4
        go_region_held3 (fun w' => (∀ o, w'.cell? ⟨w.heap.size, o, none⟩ = (#[.int .i64 op, .string t, .int .i64 nn, .complex .f64 x y, .slice (some ⟨g, 0, none⟩) len c3] : Array Value)[o]?) ∧ (∀ o, w'.cell? ⟨wr.heap.size, o, none⟩ = (#[.int .i64 q.op, .string q.text, .int .i64 q.n, .complex .f64 q.x q.y, .slice oq q.kids.length cq] : Array Value)[o]?)) (first | with_reducible exact ⟨OX8.out.cell, OQ8.out.cell⟩ | with_reducible exact ⟨(OX8.out.far5 hg1 _ _ _ _ _ _ _ _ _ _).cell, (OQ8.out.far5 hg3 _ _ _ _ _ _ _ _ _ _).cell⟩ | with_reducible exact ⟨OX.out.cell, OQ.out.cell⟩ | with_reducible exact ⟨OX.out.drew.cell, OQ.out.drew.cell⟩) (first
          | (go_simp; go_at_call 44; with_reducible refine CC.out.mono ?_; rintro e w8 ⟨v8, rfl, hL8, hb8⟩; obtain ⟨o8, c8, rfl⟩ := lies_val hL8.lp; have OX8 := Lib.hid (OX.out.drew.later hb8); have OQ8 := Lib.hid (OQ.out.drew.later hb8); have hb9 : Below wr.heap.size wr w8 := (((Below.refl wr.heap.size wr).alloc (Nat.le_refl _) _).drew).trans (hb8.mono (by simp)); have hrow8 := ownsRow_below HROW.out hb9; have fg := row_free hrow8; have zg8 := (hrow8.lt g rfl).2; obtain ⟨e0, e1, e2, e3, e4⟩ := pc_cells (w := w8) (q := q) (v := V' k) (b := g) (o := k * 5) (fun j u hu => row_pc hrow8 HLEN.out HQ.out hlt hu); rw [HVK.out] at e4; clear hrow8; have HL8 := Lib.hid hL8; have HB8 := Lib.hid hb8; clear hL8 hb8 hb9)
          | fail)
        have KEY : Hid (FiS w kids #[.int .i64 op, .string t, .int .i64 nn, .complex .f64 x y, .slice (some ⟨g, 0, none⟩) len c3] pZ V (.slice (some ⟨g, 0, none⟩) len c3) g (k + 1) (updU V' k (.slice o8 q.kids.length c8)) (((((w8.setCell ⟨g, k * 5, none⟩ (.int .i64 q.op)).setCell ⟨g, k * 5 + 1, none⟩ (.string q.text)).setCell ⟨g, k * 5 + 2, none⟩ (.int .i64 q.n)).setCell ⟨g, k * 5 + 3, none⟩ (.complex .f64 q.x q.y)).setCell ⟨g, k * 5 + 4, none⟩ (.slice o8 q.kids.length c8))) :=
          Lib.hid (FiS.step AS.out HLEN.out zg.1 zg.2 HQ.out HL8.out (belowDrew' HB8.out))
        revert KEY
        clear e0 e1 e2 e3 e4 fg zg8 OX8 OQ8 HL8 HB8 CC OX OQ AS
        generalize World.setCell (World.setCell (World.setCell (World.setCell (World.setCell _ _ _) _ _) _ _) _ _) _ _ = W5
        intro KEY
        go_wp2_with fail
        go_roundw
        case rel => exact ⟨k + 1, _, by omega, by go_num, KEY⟩
        case measure => simp [intOf]; omega
      · have e : k = len := by omega
        subst e
        have cx := AS.out.x.cell
        have fx := AS.out.x.free
        have zx := AS.out.x.lt
        have cz := AS.out.z.cell
        have fz := AS.out.z.free
        have zz := AS.out.z.lt
        go_wp2_with fail
        have KEY := Lib.hid (FiS.fin (op := op) (t := t) (nn := nn) (x := x) (y := y) AS.out HLEN.out HG.out (by rfl) HT.out r1 r2)
        clear cx fx zx cz fz zz AS
        have KEY2 : Hid (Own (((((wr.setCell ⟨w.heap.size + 1, 0, none⟩ (.int .i64 op)).setCell ⟨w.heap.size + 1, 1, none⟩ (.string t)).setCell ⟨w.heap.size + 1, 2, none⟩ (.int .i64 nn)).setCell ⟨w.heap.size + 1, 3, none⟩ (.complex .f64 x y)).setCell ⟨w.heap.size + 1, 4, none⟩ (.slice o3 k c3)) (w.heap.size + 1) #[.int .i64 op, .string t, .int .i64 nn, .complex .f64 x y, .slice o3 k c3] 39 ∧ LPF (((((wr.setCell ⟨w.heap.size + 1, 0, none⟩ (.int .i64 op)).setCell ⟨w.heap.size + 1, 1, none⟩ (.string t)).setCell ⟨w.heap.size + 1, 2, none⟩ (.int .i64 nn)).setCell ⟨w.heap.size + 1, 3, none⟩ (.complex .f64 x y)).setCell ⟨w.heap.size + 1, 4, none⟩ (.slice o3 k c3)) w.heap.size (.node op t nn x y kids) (.slice o3 k c3) ∧ Below w.heap.size w (((((wr.setCell ⟨w.heap.size + 1, 0, none⟩ (.int .i64 op)).setCell ⟨w.heap.size + 1, 1, none⟩ (.string t)).setCell ⟨w.heap.size + 1, 2, none⟩ (.int .i64 nn)).setCell ⟨w.heap.size + 1, 3, none⟩ (.complex .f64 x y)).setCell ⟨w.heap.size + 1, 4, none⟩ (.slice o3 k c3))) := KEY
        clear KEY
        revert KEY2
        generalize World.setCell (World.setCell (World.setCell (World.setCell (World.setCell _ _ _) _ _) _ _) _ _) _ _ = W5
        intro KEY
        have lf := KEY.out.1.cell
        exact bodyPost_ret (v := .agg #[.int .i64 op, .string t, .int .i64 nn, .complex .f64 x y, .slice o3 k c3]) (by simp [results, Try.results44, go_sem, lf]) rfl ⟨_, rfl, KEY.out.2.1, KEY.out.2.2⟩
end Go.Proofs.Ytjepnaefkfkpcaa
/- The code's filter of layer 9: the walks. -/
namespace Go.Proofs.Ytjepnaefkfkpcaa
set_option linter.unusedVariables false
set_option linter.unusedSimpArgs false
set_option maxRecDepth 100000
open Go.RowKit
end Go.Proofs.Ytjepnaefkfkpcaa
