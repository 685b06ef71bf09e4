/- A filter made of a Tree: the walk. -/
import Derived.Test.YtechmejmlelmmaaLeft
import Derived.Test.YtechmejmlelmmaaOwn
import Derived.Deep.RegionHeld3
import Derived.Deep.RegionLaw
import Derived.Deep.DrawnRows
namespace Go.Proofs.Ytechmejmlelmmaa
set_option linter.unusedVariables false
set_option linter.unusedSimpArgs false
set_option maxRecDepth 100000
open Go.RowKit

theorem info_pred : (Try.prog.info? 37).map (fun i => (i.zero, i.size, i.bytes)) = some (some (.agg #[.int .i64 0, .string ⟨#[]⟩, .int .i64 0, .complex .f64 0 0, .slice none 0 0]), 5, 72) := by kernel_rfl

def ConvOut (p : Pr) (w : World) (e : Ending) (w' : World) : Prop :=
  ∃ v', e = .returned (.agg #[.int .i64 p.op, .string p.text, .int .i64 p.n, .complex .f64 p.x p.y, v']) ∧ Lies 5 pc (fun b => w.heap.size ≤ b ∧ b < w'.heap.size) w' p v' ∧ Below w.heap.size w w'

/-- The first k of Kids stand in xs, one behind the other. -/
def Laid (l : List Pr) (k : Nat) (xs : List Value) (V : Nat → Value) : Prop := ∀ i p, i < k → l[i]? = some p → ∀ j u, (pc p (V i))[j]? = some u → xs[i * 5 + j]? = some u
/-- The loop's word. -/
def ConvRel (op : Int) (t : ByteArray) (n : Int) (x y : Nat) (kids : List Pr) (len : Nat) (v : Value) (w : World) (i : Value) (wr : World) : Prop :=
  ∃ (k : Nat) (sl : Value) (xs : List Value) (V : Nat → Value), k ≤ len ∧ i = .int .i64 k ∧
    Own wr w.heap.size #[.int .i64 op, .string t, .int .i64 n, .float .f64 x, .float .f64 y, v] 42 ∧
    Own wr (w.heap.size + 1) #[.int .i64 0, .string ⟨#[]⟩, .int .i64 0, .complex .f64 0 0, .slice none 0 0] 37 ∧
    Own wr (w.heap.size + 1 + 1) #[.int .i64 op, .string t, .int .i64 n, .complex .f64 x y, sl] 37 ∧
    wr.ownsRow (w.heap.size + 3) 37 5 sl k xs ∧ Laid kids k xs V ∧
    (∀ i p, i < k → kids[i]? = some p → Lies 5 pc (fun b => w.heap.size + 3 ≤ b ∧ b < wr.heap.size ∧ some b ≠ sl.ownBlock) wr p (V i)) ∧ Below w.heap.size w wr

theorem laid_step {l : List Pr} {k : Nat} {xs : List Value} {V : Nat → Value} {q : Pr} {v2 : Value} (hx : xs.length = k * 5) (h : Laid l k xs V) (hq : l[k]? = some q) : Laid l (k + 1) (xs ++ pc q v2) (fun i => if i = k then v2 else V i) := by
  intro i p hi hp j u hu
  by_cases e : i = k
  · subst e
    rw [hq] at hp; cases hp
    simp only [if_true] at hu
    rw [List.getElem?_append_right (by omega), hx, show i * 5 + j - i * 5 = j by omega]
    exact hu
  · simp only [if_neg e] at hu
    have h1 := h i p (by omega) hp j u hu
    rw [List.getElem?_append_left (List.getElem?_eq_some_iff.1 h1).1]
    exact h1

theorem conv_step {op : Int} {t : ByteArray} {n : Int} {x y : Nat} {kids : List Pr} {len : Nat} {v : Value} {w wr w2 w3 : World} {k g cap' : Nat} {sl v2 : Value} {xs : List Value} {V : Nat → Value} {q : Pr} (hk : k < len) (hq : kids[k]? = some q)
    (o1 : Own wr w.heap.size #[.int .i64 op, .string t, .int .i64 n, .float .f64 x, .float .f64 y, v] 42)
    (o2 : Own wr (w.heap.size + 1) #[.int .i64 0, .string ⟨#[]⟩, .int .i64 0, .complex .f64 0 0, .slice none 0 0] 37)
    (o3 : Own wr (w.heap.size + 1 + 1) #[.int .i64 op, .string t, .int .i64 n, .complex .f64 x y, sl] 37)
    (hown : wr.ownsRow (w.heap.size + 3) 37 5 sl k xs) (hlaid : Laid kids k xs V)
    (hlies : ∀ i p, i < k → kids[i]? = some p → Lies 5 pc (fun b => w.heap.size + 3 ≤ b ∧ b < wr.heap.size ∧ some b ≠ sl.ownBlock) wr p (V i)) (hb : Below w.heap.size w wr)
    (hl2 : Lies 5 pc (fun b => wr.drew.heap.size ≤ b ∧ b < w2.heap.size) w2 q v2) (hb2 : Below wr.drew.heap.size wr.drew w2)
    (hown3 : w3.ownsRow (w.heap.size + 3) 37 5 (.slice (some ⟨g, 0, none⟩) (k + 1) cap') (k + 1) (xs ++ pc q v2))
    (hgrow : (w2.alloc (.cells #[.int .i64 q.op, .string q.text, .int .i64 q.n, .complex .f64 q.x q.y, v2] 37)).grownBy w3 sl.ownBlock) (hat : sl.ownBlock = some g ∨ g = w2.heap.size + 1) :
    ConvRel op t n x y kids len v w (.int .i64 (k + 1 : Nat)) (w3.setCell ⟨w.heap.size + 1 + 1, 4, none⟩ (.slice (some ⟨g, 0, none⟩) (k + 1) cap')) := by
  have n1 := own_ne hown (b := w.heap.size) (by omega)
  have n2 := own_ne hown (b := w.heap.size + 1) (by omega)
  have n3 := own_ne hown (b := w.heap.size + 1 + 1) (by omega)
  have s2 : wr.heap.size ≤ w2.heap.size := hb2.size
  have s3 : w2.heap.size + 1 ≤ w3.heap.size := by have := hgrow.size; simpa using this
  have hsz : ∀ a u, (w3.setCell a u).heap.size = w3.heap.size := fun a u => by simp [World.setCell]
  have zw := hb.size
  have b1 : Below w.heap.size w (w2.alloc (.cells #[.int .i64 q.op, .string q.text, .int .i64 q.n, .complex .f64 q.x q.y, v2] 37)) := (hb.drew.trans (hb2.mono zw)).alloc (by omega) _
  have b2 : Below w.heap.size w w3 := b1.grown hgrow (by simp; omega) (fun j hj => by have := hown.lt j hj; omega)
  have hb4 : Below w.heap.size w (w3.setCell ⟨w.heap.size + 1 + 1, 4, none⟩ (.slice (some ⟨g, 0, none⟩) (k + 1) cap')) := b2.setCell (by show _ ≤ w.heap.size + 1 + 1; omega) _
  have hlt3 : ∀ j, sl.ownBlock = some j → j < wr.heap.size := fun j hj => (hown.lt j hj).2
  have hg : ∀ b, b < w2.heap.size → some b ≠ sl.ownBlock → b ≠ g := by
    intro b h1 h2 e
    rcases hat with h | h
    · exact h2 (by rw [e, h])
    · omega
  refine ⟨k + 1, _, xs ++ pc q v2, fun i => if i = k then v2 else V i, hk, rfl, (((o1.drew.later hb2).alloc _).grown hgrow n1).setFar ⟨w.heap.size + 1 + 1, 4, none⟩ _ (by show _ ≠ w.heap.size + 1 + 1; omega), (((o2.drew.later hb2).alloc _).grown hgrow n2).setFar ⟨w.heap.size + 1 + 1, 4, none⟩ _ (by show _ ≠ w.heap.size + 1 + 1; omega),
    ?_, ownsRow_setCell_below hown3 (by simp) _, laid_step hown.1 hlaid hq, ?_, hb4⟩
  · have := (((o3.drew.later hb2).alloc _).grown hgrow n3).set 4 (.slice (some ⟨g, 0, none⟩) (k + 1) cap')
    simpa using this
  · intro i p hi hp
    by_cases e : i = k
    · subst e
      rw [hq] at hp; cases hp
      simp only [if_true]
      refine hl2.mono (fun b o h => ?_) (fun b h => ?_)
      · have h1 : some b ≠ sl.ownBlock := fun e => by have := hlt3 b e.symm; have : wr.heap.size ≤ b := h.1; omega
        rw [World.cell?_of_block (Below.heap_setCell _ _ _ _ (by have : wr.heap.size ≤ b := h.1; have := hb.size; have := o3.lt; simp; omega))]
        rw [hgrow.cell_far _ (by have := h.2; simp; omega) h1]
        exact World.cell?_of_block (Below.heap_alloc _ _ _ h.2)
      · have h1 : some b ≠ sl.ownBlock := fun e => by have := hlt3 b e.symm; have : wr.heap.size ≤ b := h.1; omega
        have h0 : wr.heap.size ≤ b := h.1
        refine ⟨by have := o3.lt; omega, by rw [hsz]; have := h.2; omega, ?_⟩
        simp only [Value.ownBlock, ne_eq, Option.some.injEq]
        exact hg b h.2 h1
    · simp only [if_neg e]
      refine (hlies i p (by omega) hp).mono (fun b o h => ?_) (fun b h => ?_)
      · rw [World.cell?_of_block (Below.heap_setCell _ _ _ _ (by simp; omega))]
        rw [hgrow.cell_far _ (by simp; omega) h.2.2]
        rw [World.cell?_of_block (Below.heap_alloc _ _ _ (by simp; omega))]
        exact hb2.cell (p := ⟨b, o, none⟩) h.2.1
      · refine ⟨h.1, by rw [hsz]; omega, ?_⟩
        simp only [Value.ownBlock, ne_eq, Option.some.injEq]
        exact hg b (by omega) h.2.2

theorem conv_end {op : Int} {t : ByteArray} {n : Int} {x y : Nat} {kids : List Pr} {B : Nat} {wr W : World} {cap' : Nat} {oa : Option Addr} {xs : List Value} {V : Nat → Value} {k : Nat} (hk : kids.length = k) (ht : t.size ≤ maxLen)
    (hown : wr.ownsRow (B + 3) 37 5 (.slice oa k cap') k xs) (hlaid : Laid kids k xs V)
    (hlies : ∀ i p, i < k → kids[i]? = some p → Lies 5 pc (fun b => B + 3 ≤ b ∧ b < wr.heap.size ∧ some b ≠ (Value.slice oa k cap').ownBlock) wr p (V i))
    (hW : ∀ b o, B + 3 ≤ b → W.cell? ⟨b, o, none⟩ = wr.cell? ⟨b, o, none⟩) (hs : W.heap.size = wr.heap.size) :
    Lies 5 pc (fun b => B ≤ b ∧ b < W.heap.size) W (.node op t n x y kids) (.slice oa k cap') := by
  subst hk
  obtain ⟨oa', cap2, g, e, h1, h2, hg⟩ := row_slice hown
  cases e
  refine .mk op t n x y kids oa cap' g 0 V ht h1 h2 (fun h => ⟨(hg h).1, by have := (hg h).2.1; omega, by rw [hs]; exact (hg h).2.2⟩) (fun i p hp j u hu => ?_) fun i p hp => ?_
  · have hi := some_pos hp
    obtain ⟨rfl, hb, _⟩ := hg (by omega)
    have h3 := hlaid i p hi hp j u hu
    rw [hW _ _ hb, Nat.zero_add, hown.cellAt _ (by have := (List.getElem?_eq_some_iff.1 h3).1; rw [hown.1] at this; exact this)]
    exact h3
  · exact (hlies i p (some_pos hp) hp).mono (fun b o h => hW b o h.1) fun b h => ⟨by omega, by rw [hs]; exact h.2.1⟩

theorem conv_far {wr w2 w3 : World} {base : Nat} {e : TypeId} {size : Nat} {v : Value} {n : Nat} {xs : List Value} {ob : Obj} (hown : wr.ownsRow base e size v n xs) (hb2 : Below wr.drew.heap.size wr.drew w2) (hgrow : (w2.alloc ob).grownBy w3 v.ownBlock) {c : Nat} (hc : c < base) (hl : c < wr.heap.size) :
    ∀ o, w3.cell? ⟨c, o, none⟩ = wr.cell? ⟨c, o, none⟩ := fun o => by
  have h2 : wr.heap.size ≤ w2.heap.size := hb2.size
  rw [hgrow.cell_far _ (by simp; omega) (own_ne hown hc), World.cell?_of_block (Below.heap_alloc _ _ _ (by show c < _; omega))]
  exact hb2.cell (p := ⟨c, o, none⟩) hl

theorem near_far {wr w2 : World} (hb2 : Below wr.drew.heap.size wr.drew w2) {c : Nat} (hl : c < wr.heap.size) : ∀ o, w2.cell? ⟨c, o, none⟩ = wr.cell? ⟨c, o, none⟩ := fun o => hb2.cell (p := ⟨c, o, none⟩) hl

theorem near_far2 {wr w2 : World} (hb2 : Below wr.drew.heap.size wr.drew w2) {c : Nat} (hl : c < wr.heap.size) : ∀ o ob, (w2.alloc ob).cell? ⟨c, o, none⟩ = wr.cell? ⟨c, o, none⟩ := fun o ob => by
  have h2 : wr.heap.size ≤ w2.heap.size := hb2.size
  rw [World.cell?_of_block (Below.heap_alloc _ _ _ (by show c < _; omega))]
  exact near_far hb2 hl o

attribute [local go_sem ↓] Go.wp_at_zero Go.wp_at_succ
set_option maxHeartbeats 4000000 in
theorem conv_calls (p : Pr) : ∀ (v : Value) (w : World), LT w p v → p.size ≤ 60 →
    Calls Try.prog 12 #[.agg #[.int .i64 p.op, .string p.text, .int .i64 p.n, .float .f64 p.x, .float .f64 p.y, v]] w (ConvOut p w) := by
  induction p using Pr.ind with
  | h op t n x y kids ih =>
    intro v w hL hsz
    obtain ⟨oa, cap, b, o, V, rfl, ht, hl, hc, hn, hcell, hrec⟩ := lies_slice hL
    simp only [Pr.kids_node, Pr.text_node, Pr.op_node, Pr.n_node, Pr.x_node, Pr.y_node, Pr.size] at *
    unfold maxLen at hc
    have h60 := Pr.len_le_sizes kids
    have HL := Lib.hid hL
    have HC := Lib.hid hcell
    have HR := Lib.hid hrec
    have HN := Lib.hid hn
    have HI := Lib.hid ih
    clear hL hcell hrec hn ih
    generalize hlen : kids.length = len at *
    have HLEN := Lib.hid hlen
    clear hlen
    go_enter Try.func12, Try.ntmps12
    go_wp2_with fail
    go_loopw [4] (fun i wr => ConvRel op t n x y kids len (.slice oa len cap) w i wr) (fun i _ => len - (intOf i).toNat)
    case atStart =>
      exact ⟨0, .slice none 0 0, [], fun _ => .nilFunc, Nat.zero_le _, rfl, (((Own.new w _ _).alloc _).alloc _), ((Own.newAt _ _ _ (by simp)).alloc _), Own.newAt _ _ _ (by simp), World.ownsRow_nil _ _ _ _, fun i p h => absurd h (Nat.not_lt_zero _), fun i p h => absurd h (Nat.not_lt_zero _), (((Below.refl _ _).alloc (Nat.le_refl _) _).alloc (by simp) _).alloc (by simp; omega) _⟩
    case round =>
      obtain ⟨k, sl, xs, V', hk, rfl, o1, o2, o3, hown, hlaid, hlies, hb⟩ := hrel
      by_cases hlt : k < len
      · obtain ⟨q, hq⟩ : ∃ q, kids[k]? = some q := ⟨_, List.getElem?_eq_getElem (by rw [HLEN.out]; exact hlt)⟩
        obtain ⟨rfl, hS⟩ := HN.out (by omega)
        obtain ⟨c0, c1, c2, c3, c4, c5⟩ := tc_cells (w := wr) (fun j u hu => (hb.cell (p := ⟨b, o + k * 6 + j, none⟩) hS).trans (HC.out k q hq j u hu))
        have hqs := Pr.size_mem (List.mem_of_getElem? hq)
        have CC := HI.out q (List.mem_of_getElem? hq) (V k) wr.drew ((HR.out k q hq).later hb.drew (Nat.le_refl _)) (by omega)
        have HB := Lib.hid hb
        have HQ := Lib.hid hq
        have HLA := Lib.hid hlaid
        have HLI := Lib.hid hlies
        clear hb hq hlaid hlies
        obtain ⟨i0, hi, hz0, hz1, hz2⟩ := info_parts info_pred
        have l1 := o1.cell 5
        have l3 := o3.cell 4
        have z1 := o1.lt
        have z3 := o3.lt
        have zb : b < wr.heap.size := Nat.lt_of_lt_of_le hS HB.out.size
        simp at l1 l3
        go_wp2_with fail
        go_region_law
          (first
            | (go_simp; go_at_call 12; refine CC.mono ?_; rintro e w2 ⟨v2, rfl, hl2, hb2⟩; have gb := near_far hb2 zb; have g1 := near_far hb2 z1; have g3 := near_far hb2 z3; have a3 := near_far2 hb2 z3)
            | ((refine step_append_lies _ (by rfl) _ _ _ (by rfl) (w.heap.size + 3) 37 i0 _ 5 72 Try.underlying25 hi hz0 hz1 hz2 rfl (by omega) sl k xs (by rfl) ((ownsRow_below hown.drew hb2).alloc _) ⟨w2.heap.size, 0, none⟩ 1 1 (pc q v2) (by rfl) (by rfl) (World.news_of_block (cs := #[.int .i64 q.op, .string q.text, .int .i64 q.n, .complex .f64 q.x q.y, v2]) (t := 37) (fr := (0, 0)) (heap_alloc_new w2 _)) (pc_one (lies_one hl2)) (by omega) (by unfold maxLen; omega) (by omega) (by have : wr.heap.size ≤ w2.heap.size := hb2.size; simp; omega) (w2.heap.size + 1) (by simp) ?_; intro g cap' w3 hown3 hgrow hat hlt3; have fz := (((o3.drew.later hb2).alloc _).grown hgrow (own_ne hown (by omega))).free 4; have fb := conv_far hown hb2 hgrow (c := b) (by omega) zb; have f1 := conv_far hown hb2 hgrow (c := w.heap.size) (by omega) z1; have f3 := conv_far hown hb2 hgrow (c := w.heap.size + 1 + 1) (by omega) z3)))
        all_goals
          have R := conv_step (v := .slice (some ⟨b, o, none⟩) len cap) hlt HQ.out o1 o2 o3 hown HLA.out HLI.out HB.out hl2 hb2 hown3 hgrow hat
          go_wp2_with fail
          go_roundw
          case rel => exact R
          case measure => simp [intOf]; omega
      · have e : k = len := by omega
        subst e
        obtain ⟨oa', cap', g, rfl, hc1, hc2, hg⟩ := row_slice hown
        have HB := Lib.hid hb
        have HLA := Lib.hid hlaid
        have HLI := Lib.hid hlies
        have HO := Lib.hid hown
        have HG := Lib.hid hg
        clear hb hlaid hlies hown hg
        have l1 := o1.cell
        have l2 := o2.cell
        have l3 := o3.cell
        have f2 := o2.free
        have z1 := o1.lt
        have z2 := o2.lt
        have z3 := o3.lt
        go_wp2_with fail
        have of := ((((o2.set 0 (.int .i64 op)).set 1 (.string t)).set 2 (.int .i64 n)).set 3 (.complex .f64 x y)).set 4 (.slice oa' k cap')
        have bf : Below w.heap.size w (((((wr.setCell ⟨w.heap.size + 1, 0, none⟩ (.int .i64 op)).setCell ⟨w.heap.size + 1, 1, none⟩ (.string t)).setCell ⟨w.heap.size + 1, 2, none⟩ (.int .i64 n)).setCell ⟨w.heap.size + 1, 3, none⟩ (.complex .f64 x y)).setCell ⟨w.heap.size + 1, 4, none⟩ (.slice oa' k cap')) :=
          ((((HB.out.setCell (by show _ ≤ w.heap.size + 1; omega) _).setCell (by show _ ≤ w.heap.size + 1; omega) _).setCell (by show _ ≤ w.heap.size + 1; omega) _).setCell (by show _ ≤ w.heap.size + 1; omega) _).setCell (by show _ ≤ w.heap.size + 1; omega) _
        have hs : (((((wr.setCell ⟨w.heap.size + 1, 0, none⟩ (.int .i64 op)).setCell ⟨w.heap.size + 1, 1, none⟩ (.string t)).setCell ⟨w.heap.size + 1, 2, none⟩ (.int .i64 n)).setCell ⟨w.heap.size + 1, 3, none⟩ (.complex .f64 x y)).setCell ⟨w.heap.size + 1, 4, none⟩ (.slice oa' k cap')).heap.size = wr.heap.size := by simp [World.setCell]
        have hW : ∀ b o, w.heap.size + 3 ≤ b → (((((wr.setCell ⟨w.heap.size + 1, 0, none⟩ (.int .i64 op)).setCell ⟨w.heap.size + 1, 1, none⟩ (.string t)).setCell ⟨w.heap.size + 1, 2, none⟩ (.int .i64 n)).setCell ⟨w.heap.size + 1, 3, none⟩ (.complex .f64 x y)).setCell ⟨w.heap.size + 1, 4, none⟩ (.slice oa' k cap')).cell? ⟨b, o, none⟩ = wr.cell? ⟨b, o, none⟩ := fun b o h => by
          have h1 : b ≠ w.heap.size + 1 := by omega
          refine World.cell?_of_block ?_
          rw [Below.heap_setCell _ _ _ _ h1, Below.heap_setCell _ _ _ _ h1, Below.heap_setCell _ _ _ _ h1, Below.heap_setCell _ _ _ _ h1, Below.heap_setCell _ _ _ _ h1]
        have HE := Lib.hid (conv_end (op := op) (n := n) (x := x) (y := y) HLEN.out ht HO.out HLA.out HLI.out hW hs)
        clear hW hs l1 l2 l3 f2 z1 z2 z3
        revert of bf HE
        generalize ((((wr.setCell ⟨w.heap.size + 1, 0, none⟩ (.int .i64 op)).setCell ⟨w.heap.size + 1, 1, none⟩ (.string t)).setCell ⟨w.heap.size + 1, 2, none⟩ (.int .i64 n)).setCell ⟨w.heap.size + 1, 3, none⟩ (.complex .f64 x y)).setCell ⟨w.heap.size + 1, 4, none⟩ (.slice oa' k cap') = W
        intro of bf HE
        have lf := of.cell
        refine bodyPost_ret (v := .agg #[.int .i64 op, .string t, .int .i64 n, .complex .f64 x y, .slice oa' k cap']) (by simp [results, Try.results12, go_sem, lf]) rfl ⟨_, rfl, HE.out, bf⟩

end Go.Proofs.Ytechmejmlelmmaa
