/- Joined: RegM, Left, Conv, RegN. -/
import Derived.Deep.RegionHeld
import Derived.Below
import Derived.Test.YtjkcooakddlppaaGreatJ10
import Derived.Test.YtjkcooakddlppaaGreatJ01
import Derived.Deep.RegionHeld3
import Derived.Deep.RegionLaw
import Derived.Deep.DrawnRows
import Derived.Test.YtjkcooakddlppaaGreatJ16
import Derived.Deep.MidRow
/- Drawn regions none of whose operations turns what was there: what reads alone what stays may be taken first, wherever it was made. No walk. -/
namespace Go.Proofs.YtjkcooakddlppaaGreat
set_option linter.unusedVariables false
set_option linter.unusedSimpArgs false
set_option maxRecDepth 100000
open Go Go.RowKit
section
variable {P : Program} {ops : Array Oper} {Q : Exit → Act → World → Prop} {md : Region.Mode}
abbrev Later (w w' : World) : Prop := Below w.heap.size w w'
theorem Later.on {a b c : World} (h1 : Later a b) (h2 : Later b c) : Later a c := h1.trans (h2.mono h1.size)
structure Reads (w w' : World) : Prop where
  size : w.heap.size ≤ w'.heap.size
  cell : ∀ a : Addr, a.block < w.heap.size → w'.cell? a = w.cell? a
theorem Reads.of {w w' : World} (h : Later w w') : Reads w w' := ⟨h.size, fun a ha => h.cell (p := a) ha⟩
variable {R : World → World → Prop}
end
end Go.Proofs.YtjkcooakddlppaaGreat
/- How many parts are left behind a filter's: the walk; whether a filter is small. -/
namespace Go.Proofs.YtjkcooakddlppaaGreat
set_option linter.unusedVariables false
set_option linter.unusedSimpArgs false
set_option maxRecDepth 100000
open Go.RowKit
def leftN (s m : Int) : Int := if s ≤ m then m - s else -1
theorem leftN_neg {s r : Int} (h : 0 ≤ r) (h1 : leftN s r < 0) : r < s := by
  unfold leftN at h1; split at h1 <;> omega
theorem leftN_pos {s r : Int} (h1 : 0 ≤ leftN s r) : s ≤ r := by
  unfold leftN at h1; split at h1 <;> omega
def LeftRel (l : List Pr) (len : Nat) (m : Int) (w0 : World) (most i : Value) (wr : World) : Prop :=
  ∃ (k : Nat) (r : Int), k ≤ len ∧ i = .int .i64 k ∧ most = .int .i64 r ∧ 0 ≤ r ∧ r ≤ 60 ∧ Hid (r = m - (1 + Pr.sizes (l.take k) : Nat)) ∧ Below w0.heap.size w0 wr
set_option maxHeartbeats 1000000 in
theorem left_calls (p : Pr) : ∀ (v : Value) (m : Int) (w : World), LT w p v → -1 ≤ m → m ≤ 60 →
    Calls Tryz.prog 55 #[.agg #[.int .i64 p.op, .string p.text, .int .i64 p.n, .float .f64 p.x, .float .f64 p.y, v], .int .i64 m] w fun e w' => e = .returned (.int .i64 (leftN p.size m)) ∧ Below w.heap.size w w' := by
  induction p using Pr.ind with
  | h op t n x y kids ih =>
    intro v m w hL h1 h2
    obtain ⟨oa, cap, b, o, V, rfl, ht, hl, hc, hn, hcell, hrec⟩ := lies_slice hL
    simp only [Pr.kids_node, Pr.text_node, Pr.op_node, Pr.n_node, Pr.x_node, Pr.y_node, Pr.size] at *
    by_cases h0 : m ≤ 0
    · have e : leftN (1 + Pr.sizes kids : Nat) m = -1 := by unfold leftN; rw [if_neg (by omega)]
      rw [e]
      clear e
      go_enter Tryz.func55, Tryz.ntmps55
      go_wp2_with fail
      go_ret
      exact ⟨rfl, (Below.refl _ _).alloc (Nat.le_refl _) _⟩
    · unfold maxLen at hc
      have E := Lib.hid (rfl : leftN (1 + Pr.sizes kids : Nat) m = leftN (1 + Pr.sizes kids : Nat) m)
      have HL := Lib.hid hL
      have HC := Lib.hid hcell
      have HR := Lib.hid hrec
      have HN := Lib.hid hn
      have HI := Lib.hid ih
      clear hL hcell hrec hn ih
      generalize hlen : kids.length = len at *
      have HLEN := Lib.hid hlen
      clear hlen
      go_enter Tryz.func55, Tryz.ntmps55
      go_wp2_with fail
      go_loopw [1, 5] (fun most i wr => LeftRel kids len m (w.alloc (.cells #[.int .i64 op, .string t, .int .i64 n, .float .f64 x, .float .f64 y, .slice oa len cap] 25)) most i wr) (fun _ i _ => len - (intOf i).toNat)
      case atStart => exact ⟨0, m - 1, Nat.zero_le _, rfl, rfl, by omega, by omega, by simp [Hid, Pr.sizes], Below.refl _ _⟩
      case round =>
        obtain ⟨k, r, hk, rfl, rfl, hr0, hr1, HRr, hb⟩ := hrel
        have g := (Has.new w #[.int .i64 op, .string t, .int .i64 n, .float .f64 x, .float .f64 y, .slice oa len cap] 25).below hb (by simp)
        by_cases hlt : k < len
        · obtain ⟨q, hq⟩ : ∃ q, kids[k]? = some q := ⟨_, List.getElem?_eq_getElem (by rw [HLEN.out]; exact hlt)⟩
          obtain ⟨rfl, hS⟩ := HN.out (by omega)
          have hbw : Below w.heap.size w wr := ((Below.refl _ _).alloc (Nat.le_refl _) _).trans (hb.mono (by simp))
          obtain ⟨c0, c1, c2, c3, c4, c5⟩ := tc_cells (w := wr) (fun j u hu => (hbw.cell (p := ⟨b, o + k * 6 + j, none⟩) hS).trans (HC.out k q hq j u hu))
          have CC := HI.out q (List.mem_of_getElem? hq) (V k) r wr ((HR.out k q hq).later hbw (Nat.le_refl _)) (by omega) (by omega)
          have HB := Lib.hid hb
          have HQ := Lib.hid hq
          clear hb hbw hq
          have l := g.cell
          have z := g.lt
          clear g
          go_wp2_with (go_at_call 55; refine CC.mono ?_; rintro e w' ⟨rfl, hb'⟩)
          · have hneg : leftN q.size r < 0 := by assumption
            have hbig : r < (q.size : Int) := leftN_neg hr0 hneg
            have h3 := Pr.sizes_take HQ.out
            have h4 := Pr.sizes_take_le kids (k + 1)
            have h5 := HRr.out
            go_ret
            exact ⟨ret_int (by unfold leftN; rw [if_neg (by omega)]), below_new (HB.out.trans (hb'.mono HB.out.size))⟩
          · have hneg : 0 ≤ leftN q.size r := by assumption
            have hbig : (q.size : Int) ≤ r := leftN_pos hneg
            have h3 := Pr.sizes_take HQ.out
            have h5 := HRr.out
            have h6 := Pr.size_pos q
            have h7 : leftN q.size r = r - q.size := if_pos hbig
            go_roundw
            case rel => exact ⟨k + 1, r - q.size, by omega, by go_num, by rw [h7], by omega, by omega, by unfold Hid; rw [h3]; omega, HB.out.trans (hb'.mono HB.out.size)⟩
            case measure => simp [intOf]; omega
        · have HB := Lib.hid hb
          clear hb
          have l := g.cell
          have z := g.lt
          clear g
          have e : k = len := by omega
          have h5 := HRr.out
          rw [Pr.take_all kids (by rw [HLEN.out]; omega)] at h5
          have H5 := Lib.hid h5
          clear h5 e
          go_wp2_with fail
          go_ret
          have h5 := H5.out
          exact ⟨ret_int (by unfold leftN; rw [if_pos (by omega)]; exact h5), below_new HB.out⟩
set_option maxHeartbeats 1000000 in
theorem small_calls (p : Pr) (v : Value) (w : World) (hL : LT w p v) :
    Calls Tryz.prog 17 #[.agg #[.int .i64 p.op, .string p.text, .int .i64 p.n, .float .f64 p.x, .float .f64 p.y, v]] w fun e w' => e = .returned (.int .i64 (if p.size ≤ 60 then 1 else 0)) ∧ Below w.heap.size w w' := by
  have H := fun w' h => Lib.hid (left_calls p v 60 w' h (by omega) (by omega))
  have L1 := fun o => Lib.hid (hL.atAlloc o)
  clear hL
  by_cases h : p.size ≤ 60
  · have h1 : leftN p.size 60 = 60 - p.size := if_pos (by omega)
    have h2 : ¬ (leftN p.size 60 < 0) := by omega
    rw [if_pos h]
    clear h1
    go_enter Tryz.func17, Tryz.ntmps17
    go_wp2_with (go_at_call 55; refine (H _ (L1 _).out).out.mono ?_; rintro e w' ⟨rfl, hb⟩)
    go_ret
    exact ⟨rfl, below_new hb⟩
  · have h1 : leftN p.size 60 = -1 := if_neg (by omega)
    have h2 : leftN p.size 60 < 0 := by omega
    rw [if_neg h]
    clear h1
    go_enter Tryz.func17, Tryz.ntmps17
    go_wp2_with (go_at_call 55; refine (H _ (L1 _).out).out.mono ?_; rintro e w' ⟨rfl, hb⟩)
    go_ret
    exact ⟨rfl, below_new hb⟩
end Go.Proofs.YtjkcooakddlppaaGreat
/- A filter made of a Tree: the walk. -/
namespace Go.Proofs.YtjkcooakddlppaaGreat
set_option linter.unusedVariables false
set_option linter.unusedSimpArgs false
set_option maxRecDepth 100000
open Go.RowKit
theorem info_pred : (Tryz.prog.info? 43).map (fun i => (i.zero, i.size, i.bytes)) = some (some (.agg #[.int .i64 0, .string ⟨#[]⟩, .int .i64 0, .complex .f64 0 0, .slice none 0 0]), 5, 72) := by kernel_rfl
def ConvOut (p : Pr) (w : World) (e : Ending) (w' : World) : Prop :=
  ∃ v', e = .returned (.agg #[.int .i64 p.op, .string p.text, .int .i64 p.n, .complex .f64 p.x p.y, v']) ∧ Lies 5 pc (fun b => w.heap.size ≤ b ∧ b < w'.heap.size) w' p v' ∧ Below w.heap.size w w'
def Laid (l : List Pr) (k : Nat) (xs : List Value) (V : Nat → Value) : Prop := ∀ i p, i < k → l[i]? = some p → ∀ j u, (pc p (V i))[j]? = some u → xs[i * 5 + j]? = some u
def ConvRel (op : Int) (t : ByteArray) (n : Int) (x y : Nat) (kids : List Pr) (len : Nat) (v : Value) (w : World) (i : Value) (wr : World) : Prop :=
  ∃ (k : Nat) (sl : Value) (xs : List Value) (V : Nat → Value), k ≤ len ∧ i = .int .i64 k ∧
    Own wr w.heap.size #[.int .i64 op, .string t, .int .i64 n, .float .f64 x, .float .f64 y, v] 25 ∧
    Own wr (w.heap.size + 1) #[.int .i64 0, .string ⟨#[]⟩, .int .i64 0, .complex .f64 0 0, .slice none 0 0] 43 ∧
    Own wr (w.heap.size + 1 + 1) #[.int .i64 op, .string t, .int .i64 n, .complex .f64 x y, sl] 43 ∧
    wr.ownsRow (w.heap.size + 3) 43 5 sl k xs ∧ Laid kids k xs V ∧
    (∀ i p, i < k → kids[i]? = some p → Lies 5 pc (fun b => w.heap.size + 3 ≤ b ∧ b < wr.heap.size ∧ some b ≠ sl.ownBlock) wr p (V i)) ∧ Below w.heap.size w wr
theorem laid_step {l : List Pr} {k : Nat} {xs : List Value} {V : Nat → Value} {q : Pr} {v2 : Value} (hx : xs.length = k * 5) (h : Laid l k xs V) (hq : l[k]? = some q) : Laid l (k + 1) (xs ++ pc q v2) (fun i => if i = k then v2 else V i) := by
  intro i p hi hp j u hu
  by_cases e : i = k
  · subst e
    rw [hq] at hp; cases hp
    simp only [if_true] at hu
    rw [List.getElem?_append_right (by omega), hx, show i * 5 + j - i * 5 = j by omega]
    exact hu
  · simp only [if_neg e] at hu
    have h1 := h i p (by omega) hp j u hu
    rw [List.getElem?_append_left (List.getElem?_eq_some_iff.1 h1).1]
    exact h1
theorem conv_step {op : Int} {t : ByteArray} {n : Int} {x y : Nat} {kids : List Pr} {len : Nat} {v : Value} {w wr w2 w3 : World} {k g cap' : Nat} {sl v2 : Value} {xs : List Value} {V : Nat → Value} {q : Pr} (hk : k < len) (hq : kids[k]? = some q)
    (o1 : Own wr w.heap.size #[.int .i64 op, .string t, .int .i64 n, .float .f64 x, .float .f64 y, v] 25)
    (o2 : Own wr (w.heap.size + 1) #[.int .i64 0, .string ⟨#[]⟩, .int .i64 0, .complex .f64 0 0, .slice none 0 0] 43)
    (o3 : Own wr (w.heap.size + 1 + 1) #[.int .i64 op, .string t, .int .i64 n, .complex .f64 x y, sl] 43)
    (hown : wr.ownsRow (w.heap.size + 3) 43 5 sl k xs) (hlaid : Laid kids k xs V)
    (hlies : ∀ i p, i < k → kids[i]? = some p → Lies 5 pc (fun b => w.heap.size + 3 ≤ b ∧ b < wr.heap.size ∧ some b ≠ sl.ownBlock) wr p (V i)) (hb : Below w.heap.size w wr)
    (hl2 : Lies 5 pc (fun b => wr.drew.heap.size ≤ b ∧ b < w2.heap.size) w2 q v2) (hb2 : Below wr.drew.heap.size wr.drew w2)
    (hown3 : w3.ownsRow (w.heap.size + 3) 43 5 (.slice (some ⟨g, 0, none⟩) (k + 1) cap') (k + 1) (xs ++ pc q v2))
    (hgrow : (w2.alloc (.cells #[.int .i64 q.op, .string q.text, .int .i64 q.n, .complex .f64 q.x q.y, v2] 43)).grownBy w3 sl.ownBlock) (hat : sl.ownBlock = some g ∨ g = w2.heap.size + 1) :
    ConvRel op t n x y kids len v w (.int .i64 (k + 1 : Nat)) (w3.setCell ⟨w.heap.size + 1 + 1, 4, none⟩ (.slice (some ⟨g, 0, none⟩) (k + 1) cap')) := by
  have n1 := own_ne hown (b := w.heap.size) (by omega)
  have n2 := own_ne hown (b := w.heap.size + 1) (by omega)
  have n3 := own_ne hown (b := w.heap.size + 1 + 1) (by omega)
  have s2 : wr.heap.size ≤ w2.heap.size := hb2.size
  have s3 : w2.heap.size + 1 ≤ w3.heap.size := by have := hgrow.size; simpa using this
  have hsz : ∀ a u, (w3.setCell a u).heap.size = w3.heap.size := fun a u => by simp [World.setCell]
  have zw := hb.size
  have b1 : Below w.heap.size w (w2.alloc (.cells #[.int .i64 q.op, .string q.text, .int .i64 q.n, .complex .f64 q.x q.y, v2] 43)) := (hb.drew.trans (hb2.mono zw)).alloc (by omega) _
  have b2 : Below w.heap.size w w3 := b1.grown hgrow (by simp; omega) (fun j hj => by have := hown.lt j hj; omega)
  have hb4 : Below w.heap.size w (w3.setCell ⟨w.heap.size + 1 + 1, 4, none⟩ (.slice (some ⟨g, 0, none⟩) (k + 1) cap')) := b2.setCell (by show _ ≤ w.heap.size + 1 + 1; omega) _
  have hlt3 : ∀ j, sl.ownBlock = some j → j < wr.heap.size := fun j hj => (hown.lt j hj).2
  have hg : ∀ b, b < w2.heap.size → some b ≠ sl.ownBlock → b ≠ g := by
    intro b h1 h2 e
    rcases hat with h | h
    · exact h2 (by rw [e, h])
    · omega
  refine ⟨k + 1, _, xs ++ pc q v2, fun i => if i = k then v2 else V i, hk, rfl, (((o1.drew.later hb2).alloc _).grown hgrow n1).setFar ⟨w.heap.size + 1 + 1, 4, none⟩ _ (by show _ ≠ w.heap.size + 1 + 1; omega), (((o2.drew.later hb2).alloc _).grown hgrow n2).setFar ⟨w.heap.size + 1 + 1, 4, none⟩ _ (by show _ ≠ w.heap.size + 1 + 1; omega),
    ?_, ownsRow_setCell_below hown3 (by simp) _, laid_step hown.1 hlaid hq, ?_, hb4⟩
  · have := (((o3.drew.later hb2).alloc _).grown hgrow n3).set 4 (.slice (some ⟨g, 0, none⟩) (k + 1) cap')
    simpa using this
  · intro i p hi hp
    by_cases e : i = k
    · subst e
      rw [hq] at hp; cases hp
      simp only [if_true]
      refine hl2.mono (fun b o h => ?_) (fun b h => ?_)
      · have h1 : some b ≠ sl.ownBlock := fun e => by have := hlt3 b e.symm; have : wr.heap.size ≤ b := h.1; omega
        rw [World.cell?_of_block (Below.heap_setCell _ _ _ _ (by have : wr.heap.size ≤ b := h.1; have := hb.size; have := o3.lt; simp; omega))]
        rw [hgrow.cell_far _ (by have := h.2; simp; omega) h1]
        exact World.cell?_of_block (Below.heap_alloc _ _ _ h.2)
      · have h1 : some b ≠ sl.ownBlock := fun e => by have := hlt3 b e.symm; have : wr.heap.size ≤ b := h.1; omega
        have h0 : wr.heap.size ≤ b := h.1
        refine ⟨by have := o3.lt; omega, by rw [hsz]; have := h.2; omega, ?_⟩
        simp only [Value.ownBlock, ne_eq, Option.some.injEq]
        exact hg b h.2 h1
    · simp only [if_neg e]
      refine (hlies i p (by omega) hp).mono (fun b o h => ?_) (fun b h => ?_)
      · rw [World.cell?_of_block (Below.heap_setCell _ _ _ _ (by simp; omega))]
        rw [hgrow.cell_far _ (by simp; omega) h.2.2]
        rw [World.cell?_of_block (Below.heap_alloc _ _ _ (by simp; omega))]
        exact hb2.cell (p := ⟨b, o, none⟩) h.2.1
      · refine ⟨h.1, by rw [hsz]; omega, ?_⟩
        simp only [Value.ownBlock, ne_eq, Option.some.injEq]
        exact hg b (by omega) h.2.2
theorem conv_end {op : Int} {t : ByteArray} {n : Int} {x y : Nat} {kids : List Pr} {B : Nat} {wr W : World} {cap' : Nat} {oa : Option Addr} {xs : List Value} {V : Nat → Value} {k : Nat} (hk : kids.length = k) (ht : t.size ≤ maxLen)
    (hown : wr.ownsRow (B + 3) 43 5 (.slice oa k cap') k xs) (hlaid : Laid kids k xs V)
    (hlies : ∀ i p, i < k → kids[i]? = some p → Lies 5 pc (fun b => B + 3 ≤ b ∧ b < wr.heap.size ∧ some b ≠ (Value.slice oa k cap').ownBlock) wr p (V i))
    (hW : ∀ b o, B + 3 ≤ b → W.cell? ⟨b, o, none⟩ = wr.cell? ⟨b, o, none⟩) (hs : W.heap.size = wr.heap.size) :
    Lies 5 pc (fun b => B ≤ b ∧ b < W.heap.size) W (.node op t n x y kids) (.slice oa k cap') := by
  subst hk
  obtain ⟨oa', cap2, g, e, h1, h2, hg⟩ := row_slice hown
  cases e
  refine .mk op t n x y kids oa cap' g 0 V ht h1 h2 (fun h => ⟨(hg h).1, by have := (hg h).2.1; omega, by rw [hs]; exact (hg h).2.2⟩) (fun i p hp j u hu => ?_) fun i p hp => ?_
  · have hi := some_pos hp
    obtain ⟨rfl, hb, _⟩ := hg (by omega)
    have h3 := hlaid i p hi hp j u hu
    rw [hW _ _ hb, Nat.zero_add, hown.cellAt _ (by have := (List.getElem?_eq_some_iff.1 h3).1; rw [hown.1] at this; exact this)]
    exact h3
  · exact (hlies i p (some_pos hp) hp).mono (fun b o h => hW b o h.1) fun b h => ⟨by omega, by rw [hs]; exact h.2.1⟩
theorem conv_far {wr w2 w3 : World} {base : Nat} {e : TypeId} {size : Nat} {v : Value} {n : Nat} {xs : List Value} {ob : Obj} (hown : wr.ownsRow base e size v n xs) (hb2 : Below wr.drew.heap.size wr.drew w2) (hgrow : (w2.alloc ob).grownBy w3 v.ownBlock) {c : Nat} (hc : c < base) (hl : c < wr.heap.size) :
    ∀ o, w3.cell? ⟨c, o, none⟩ = wr.cell? ⟨c, o, none⟩ := fun o => by
  have h2 : wr.heap.size ≤ w2.heap.size := hb2.size
  rw [hgrow.cell_far _ (by simp; omega) (own_ne hown hc), World.cell?_of_block (Below.heap_alloc _ _ _ (by show c < _; omega))]
  exact hb2.cell (p := ⟨c, o, none⟩) hl
theorem near_far {wr w2 : World} (hb2 : Below wr.drew.heap.size wr.drew w2) {c : Nat} (hl : c < wr.heap.size) : ∀ o, w2.cell? ⟨c, o, none⟩ = wr.cell? ⟨c, o, none⟩ := fun o => hb2.cell (p := ⟨c, o, none⟩) hl
theorem near_far2 {wr w2 : World} (hb2 : Below wr.drew.heap.size wr.drew w2) {c : Nat} (hl : c < wr.heap.size) : ∀ o ob, (w2.alloc ob).cell? ⟨c, o, none⟩ = wr.cell? ⟨c, o, none⟩ := fun o ob => by
  have h2 : wr.heap.size ≤ w2.heap.size := hb2.size
  rw [World.cell?_of_block (Below.heap_alloc _ _ _ (by show c < _; omega))]
  exact near_far hb2 hl o
attribute [local go_sem ↓] Go.wp_at_zero Go.wp_at_succ
set_option maxHeartbeats 4000000 in
theorem conv_calls (p : Pr) : ∀ (v : Value) (w : World), LT w p v → p.size ≤ 60 →
    Calls Tryz.prog 19 #[.agg #[.int .i64 p.op, .string p.text, .int .i64 p.n, .float .f64 p.x, .float .f64 p.y, v]] w (ConvOut p w) := by
  induction p using Pr.ind with
  | h op t n x y kids ih =>
    intro v w hL hsz
    obtain ⟨oa, cap, b, o, V, rfl, ht, hl, hc, hn, hcell, hrec⟩ := lies_slice hL
    simp only [Pr.kids_node, Pr.text_node, Pr.op_node, Pr.n_node, Pr.x_node, Pr.y_node, Pr.size] at *
    unfold maxLen at hc
    have h60 := Pr.len_le_sizes kids
    have HL := Lib.hid hL
    have HC := Lib.hid hcell
    have HR := Lib.hid hrec
    have HN := Lib.hid hn
    have HI := Lib.hid ih
    clear hL hcell hrec hn ih
    generalize hlen : kids.length = len at *
    have HLEN := Lib.hid hlen
    clear hlen
    go_enter Tryz.func19, Tryz.ntmps19
    go_wp2_with fail
    go_loopw [4] (fun i wr => ConvRel op t n x y kids len (.slice oa len cap) w i wr) (fun i _ => len - (intOf i).toNat)
    case atStart =>
      exact ⟨0, .slice none 0 0, [], fun _ => .nilFunc, Nat.zero_le _, rfl, (((Own.new w _ _).alloc _).alloc _), ((Own.newAt _ _ _ (by simp)).alloc _), Own.newAt _ _ _ (by simp), World.ownsRow_nil _ _ _ _, fun i p h => absurd h (Nat.not_lt_zero _), fun i p h => absurd h (Nat.not_lt_zero _), (((Below.refl _ _).alloc (Nat.le_refl _) _).alloc (by simp) _).alloc (by simp; omega) _⟩
    case round =>
      obtain ⟨k, sl, xs, V', hk, rfl, o1, o2, o3, hown, hlaid, hlies, hb⟩ := hrel
      by_cases hlt : k < len
      · obtain ⟨q, hq⟩ : ∃ q, kids[k]? = some q := ⟨_, List.getElem?_eq_getElem (by rw [HLEN.out]; exact hlt)⟩
        obtain ⟨rfl, hS⟩ := HN.out (by omega)
        obtain ⟨c0, c1, c2, c3, c4, c5⟩ := tc_cells (w := wr) (fun j u hu => (hb.cell (p := ⟨b, o + k * 6 + j, none⟩) hS).trans (HC.out k q hq j u hu))
        have hqs := Pr.size_mem (List.mem_of_getElem? hq)
        have CC := HI.out q (List.mem_of_getElem? hq) (V k) wr.drew ((HR.out k q hq).later hb.drew (Nat.le_refl _)) (by omega)
        have HB := Lib.hid hb
        have HQ := Lib.hid hq
        have HLA := Lib.hid hlaid
        have HLI := Lib.hid hlies
        clear hb hq hlaid hlies
        obtain ⟨i0, hi, hz0, hz1, hz2⟩ := info_parts info_pred
        have l1 := o1.cell 5
        have l3 := o3.cell 4
        have z1 := o1.lt
        have z3 := o3.lt
        have zb : b < wr.heap.size := Nat.lt_of_lt_of_le hS HB.out.size
        simp at l1 l3
        go_wp2_with fail
        go_region_law
          (first
            | (go_simp; go_at_call 19; refine CC.mono ?_; rintro e w2 ⟨v2, rfl, hl2, hb2⟩; have gb := near_far hb2 zb; have g1 := near_far hb2 z1; have g3 := near_far hb2 z3; have a3 := near_far2 hb2 z3)
            | ((refine step_append_lies _ (by rfl) _ _ _ (by rfl) (w.heap.size + 3) 43 i0 _ 5 72 Tryz.underlying41 hi hz0 hz1 hz2 rfl (by omega) sl k xs (by rfl) ((ownsRow_below hown.drew hb2).alloc _) ⟨w2.heap.size, 0, none⟩ 1 1 (pc q v2) (by rfl) (by rfl) (World.news_of_block (cs := #[.int .i64 q.op, .string q.text, .int .i64 q.n, .complex .f64 q.x q.y, v2]) (t := 43) (fr := (0, 0)) (heap_alloc_new w2 _)) (pc_one (lies_one hl2)) (by omega) (by unfold maxLen; omega) (by omega) (by have : wr.heap.size ≤ w2.heap.size := hb2.size; simp; omega) (w2.heap.size + 1) (by simp) ?_; intro g cap' w3 hown3 hgrow hat hlt3; have fz := (((o3.drew.later hb2).alloc _).grown hgrow (own_ne hown (by omega))).free 4; have fb := conv_far hown hb2 hgrow (c := b) (by omega) zb; have f1 := conv_far hown hb2 hgrow (c := w.heap.size) (by omega) z1; have f3 := conv_far hown hb2 hgrow (c := w.heap.size + 1 + 1) (by omega) z3)))
        all_goals
          have R := conv_step (v := .slice (some ⟨b, o, none⟩) len cap) hlt HQ.out o1 o2 o3 hown HLA.out HLI.out HB.out hl2 hb2 hown3 hgrow hat
          go_wp2_with fail
          go_roundw
          case rel => exact R
          case measure => simp [intOf]; omega
      · have e : k = len := by omega
        subst e
        obtain ⟨oa', cap', g, rfl, hc1, hc2, hg⟩ := row_slice hown
        have HB := Lib.hid hb
        have HLA := Lib.hid hlaid
        have HLI := Lib.hid hlies
        have HO := Lib.hid hown
        have HG := Lib.hid hg
        clear hb hlaid hlies hown hg
        have l1 := o1.cell
        have l2 := o2.cell
        have l3 := o3.cell
        have f2 := o2.free
        have z1 := o1.lt
        have z2 := o2.lt
        have z3 := o3.lt
        go_wp2_with fail
        have of := ((((o2.set 0 (.int .i64 op)).set 1 (.string t)).set 2 (.int .i64 n)).set 3 (.complex .f64 x y)).set 4 (.slice oa' k cap')
        have bf : Below w.heap.size w (((((wr.setCell ⟨w.heap.size + 1, 0, none⟩ (.int .i64 op)).setCell ⟨w.heap.size + 1, 1, none⟩ (.string t)).setCell ⟨w.heap.size + 1, 2, none⟩ (.int .i64 n)).setCell ⟨w.heap.size + 1, 3, none⟩ (.complex .f64 x y)).setCell ⟨w.heap.size + 1, 4, none⟩ (.slice oa' k cap')) :=
          ((((HB.out.setCell (by show _ ≤ w.heap.size + 1; omega) _).setCell (by show _ ≤ w.heap.size + 1; omega) _).setCell (by show _ ≤ w.heap.size + 1; omega) _).setCell (by show _ ≤ w.heap.size + 1; omega) _).setCell (by show _ ≤ w.heap.size + 1; omega) _
        have hs : (((((wr.setCell ⟨w.heap.size + 1, 0, none⟩ (.int .i64 op)).setCell ⟨w.heap.size + 1, 1, none⟩ (.string t)).setCell ⟨w.heap.size + 1, 2, none⟩ (.int .i64 n)).setCell ⟨w.heap.size + 1, 3, none⟩ (.complex .f64 x y)).setCell ⟨w.heap.size + 1, 4, none⟩ (.slice oa' k cap')).heap.size = wr.heap.size := by simp [World.setCell]
        have hW : ∀ b o, w.heap.size + 3 ≤ b → (((((wr.setCell ⟨w.heap.size + 1, 0, none⟩ (.int .i64 op)).setCell ⟨w.heap.size + 1, 1, none⟩ (.string t)).setCell ⟨w.heap.size + 1, 2, none⟩ (.int .i64 n)).setCell ⟨w.heap.size + 1, 3, none⟩ (.complex .f64 x y)).setCell ⟨w.heap.size + 1, 4, none⟩ (.slice oa' k cap')).cell? ⟨b, o, none⟩ = wr.cell? ⟨b, o, none⟩ := fun b o h => by
          have h1 : b ≠ w.heap.size + 1 := by omega
          refine World.cell?_of_block ?_
          rw [Below.heap_setCell _ _ _ _ h1, Below.heap_setCell _ _ _ _ h1, Below.heap_setCell _ _ _ _ h1, Below.heap_setCell _ _ _ _ h1, Below.heap_setCell _ _ _ _ h1]
        have HE := Lib.hid (conv_end (op := op) (n := n) (x := x) (y := y) HLEN.out ht HO.out HLA.out HLI.out hW hs)
        clear hW hs l1 l2 l3 f2 z1 z2 z3
        revert of bf HE
        generalize ((((wr.setCell ⟨w.heap.size + 1, 0, none⟩ (.int .i64 op)).setCell ⟨w.heap.size + 1, 1, none⟩ (.string t)).setCell ⟨w.heap.size + 1, 2, none⟩ (.int .i64 n)).setCell ⟨w.heap.size + 1, 3, none⟩ (.complex .f64 x y)).setCell ⟨w.heap.size + 1, 4, none⟩ (.slice oa' k cap') = W
        intro of bf HE
        have lf := of.cell
        refine bodyPost_ret (v := .agg #[.int .i64 op, .string t, .int .i64 n, .complex .f64 x y, .slice oa' k cap']) (by simp [results, Tryz.results19, go_sem, lf]) rfl ⟨_, rfl, HE.out, bf⟩
end Go.Proofs.YtjkcooakddlppaaGreat
/- Drawn regions in one order: what no operation turns may be taken first wherever it was made; what late operations (D) store into the blocks T may be taken ahead of them. No walk. -/
namespace Go.Proofs.YtjkcooakddlppaaGreat
set_option linter.unusedVariables false
set_option linter.unusedSimpArgs false
set_option maxRecDepth 100000
open Go Go.RowKit
structure But (T : Nat → Prop) (w w' : World) : Prop where
  size : w.heap.size ≤ w'.heap.size
  blk : ∀ b, b < w.heap.size → ¬ T b → w'.heap[b]? = w.heap[b]?
section
variable {T : Nat → Prop} {w w' w'' : World}
theorem But.refl (w : World) : But T w w := ⟨Nat.le_refl _, fun _ _ _ => rfl⟩
theorem But.trans (h : But T w w') (k : But T w' w'') : But T w w'' := ⟨Nat.le_trans h.size k.size, fun b hb ht => (k.blk b (Nat.lt_of_lt_of_le hb h.size) ht).trans (h.blk b hb ht)⟩
theorem But.of (h : Later w w') : But T w w' := ⟨h.size, fun b hb _ => h.block b hb⟩
theorem But.mono' {T' : Nat → Prop} (h : But T' w w') (hT : ∀ b, T' b → T b) : But T w w' := ⟨h.size, fun b hb ht => h.blk b hb fun h' => ht (hT b h')⟩
theorem But.set {b o : Nat} (hT : T b) (v : Value) : But T w (w.setCell ⟨b, o, none⟩ v) := ⟨by simp [World.setCell], fun k _ hk => Below.heap_setCell _ _ _ _ (fun e => hk (by subst e; exact hT))⟩
theorem But.sets {b : Nat} (hT : T b) (vs : List Value) : ∀ {w : World} (o : Nat), But T w (w.setCells b o vs) := by
  induction vs with
  | nil => intro w o; exact But.refl _
  | cons u r ih => intro w o; exact (But.set hT u).trans (ih (o + 1))
theorem Own.but {b : Nat} {c : Array Value} {t : TypeId} (h : Own w b c t) (hb : But T w w') (hT : ¬ T b) : Own w' b c t := ⟨by rw [hb.blk b h.lt hT]; exact h.blk⟩
end
theorem below_setsN {b B : Nat} {a : World} (hB : B ≤ b) (vs : List Value) : ∀ {w : World} (o : Nat), Below B a w → Below B a (w.setCells b o vs) := by
  induction vs with
  | nil => intro w o h; exact h
  | cons v r ih => intro w o h; exact ih (o + 1) (h.setCell hB v)
def setArrN (c : Array Value) (o : Nat) : List Value → Array Value
  | [] => c
  | v :: r => setArrN (c.setIfInBounds o v) (o + 1) r
theorem setArrN_size (vs : List Value) : ∀ (c : Array Value) (o : Nat), (setArrN c o vs).size = c.size := by
  induction vs with
  | nil => intro c o; rfl
  | cons v r ih => intro c o; rw [setArrN, ih]; simp
theorem setArrN_get (vs : List Value) : ∀ (c : Array Value) (o j : Nat), j < c.size → (setArrN c o vs)[j]? = if o ≤ j ∧ j < o + vs.length then vs[j - o]? else c[j]? := by
  induction vs with
  | nil => intro c o j hj; rw [setArrN, if_neg (by simp only [List.length_nil]; omega)]
  | cons v r ih =>
    intro c o j hj
    rw [setArrN, ih _ _ _ (by simpa using hj)]
    by_cases e : j = o
    · subst e
      rw [if_neg (by omega), if_pos (by simp)]
      simp [hj]
    · by_cases h : o + 1 ≤ j ∧ j < o + 1 + r.length
      · rw [if_pos h, if_pos (by simp only [List.length_cons]; omega)]
        rw [show j - o = (j - (o + 1)) + 1 by omega, List.getElem?_cons_succ]
      · rw [if_neg h, if_neg (by simp only [List.length_cons]; omega)]
        rw [Array.getElem?_setIfInBounds_ne (fun h' => e h'.symm)]
theorem setArrN_all (c : Array Value) (vs : List Value) (h : vs.length = c.size) : setArrN c 0 vs = vs.toArray := by
  apply Array.ext_getElem?
  intro j
  by_cases hj : j < c.size
  · rw [setArrN_get vs c 0 j hj, if_pos (by omega)]; simp
  · rw [Array.getElem?_eq_none (by rw [setArrN_size]; omega), Array.getElem?_eq_none (by simp; omega)]
theorem Own.whole {w : World} {b : Nat} {C : Array Value} {vs : List Value} {t : TypeId} (h : Own w b (setArrN C 0 vs) t) (hn : vs.length = C.size) : Own w b vs.toArray t := by rw [← setArrN_all C vs hn]; exact h
theorem own_setsN {b : Nat} {t : TypeId} (vs : List Value) : ∀ {w : World} {c : Array Value} (o : Nat), Own w b c t → Own (w.setCells b o vs) b (setArrN c o vs) t := by
  induction vs with
  | nil => intro w c o h; exact h
  | cons v r ih => intro w c o h; exact ih (o + 1) (h.set o v)
theorem exec_load_mid {P : Program} {o : Oper} {a : Act} {w : World} (ty : TypeId) (x : Operand) (ho : o.op = .load ty x) (b off : Nat) (hx : a.eval x = .pointer (some ⟨b, off, none⟩)) (cs : List Value) (d : TypeDesc) (hc : w.rangeAt b off cs)
    (hu : P.underlying ty = some d) (hd : d.isRow = true) (hi : (P.info? ty).map (·.size) = some cs.length) : (execOp a.eval o).run P w = .ok (.value (.agg cs.toArray)) w := by
  unfold execOp
  simp only [ho, hx, Instr.loadAt, Instr.sureAddr, Sem.run_bind, Sem.run_pure, Result.andThen_ok, run_loadVar_mid w b off ty cs d hc hu hd hi]
section
variable {P : Program} {ops : Array Oper} {Q : Exit → Act → World → Prop} {md : Region.Mode} {T : Nat → Prop} {D : Nat → Bool}
def monoN (P : Program) (md : Region.Mode) (ops : Array Oper) (Q : Exit → Act → World → Prop) (T : Nat → Prop) (D : Nat → Bool) (fuel : Nat) (listed : Array Bool) (a : Act) (w : World) : Prop :=
  match fuel with
  | 0 => Region.ready md ops listed = [] ∧ Q .normal a w
  | n + 1 => (Region.ready md ops listed = [] → Q .normal a w) ∧ ∀ i ∈ Region.ready md ops listed,
      wpOp P ops Q i (fun a' w' => (D i = false → Later w w') ∧ But T w w' ∧ monoN P md ops Q T D n (listed.setIfInBounds i true) a' w') a w
theorem monoN_any : ∀ (n : Nat) {l : Array Bool} {a : Act} {w : World}, monoN P md ops Q T D n l a w → wpAny P md ops Q n l a w := by
  intro n
  induction n with
  | zero => intro l a w h; exact h
  | succ n ih => intro l a w h; exact ⟨h.1, fun i hi => wpOp_mono (fun a' w' hk => ih hk.2.2) (h.2 i hi)⟩
theorem monoN_first {w0 : World} {i : Nat} {oi : Oper} {v : Value} (hi : ops[i]? = some oi) (hsel : ∀ (j : Nat) (o : Oper) cs b, ops[j]? = some o → o.op ≠ .select cs b) (hQ : ∀ c a w, Q (.panic c) (a.put oi.dst v) w → Q (.panic c) a w) (hW : waitB md ops D i = true) :
    ∀ (n : Nat) {l : Array Bool} {a : Act} {w : World}, (∀ j oj, ops[j]? = some oj → j ≠ i → l.getD j true = false → (∀ e ∈ oj.after, Region.binds md e = true → e.on ≠ i) → oi.apart ops oj = true) →
      i ∈ Region.ready md ops l → YieldsIf P ops (Later w0) oi v a → Later w0 w → monoN P md ops Q T D n (l.setIfInBounds i true) (a.put oi.dst v) w → monoN P md ops Q T D (n + 1) l a w := by
  intro n
  induction n with
  | zero =>
    intro l a w _ hr hy hT H
    refine ⟨fun h => (by rw [h] at hr; cases hr), fun j hj => ?_⟩
    rcases Decidable.em (j = i) with e | e
    · subst e; exact hy.wpOp hi hT ⟨fun _ => Below.refl _ _, But.refl _, H⟩
    · have hm := ready_mono hj e
      rw [H.1] at hm; cases hm
  | succ n ih =>
    intro l a w hfree hr hy hT H
    refine ⟨fun h => (by rw [h] at hr; cases hr), fun j hj => ?_⟩
    rcases Decidable.em (j = i) with e | e
    · subst e; exact hy.wpOp hi hT ⟨fun _ => Below.refl _ _, But.refl _, H⟩
    · obtain ⟨hun, oj, hoj, hall⟩ := mem_ready.1 hj
      have hli := (mem_ready.1 hr).1
      have hDj := wait_of hW hj hoj hli
      have hno : ∀ k ∈ oj.after, Region.binds md k = true → k.on ≠ i := by
        intro k hk hb hki
        have h1 := hall k hk hb
        rw [hki] at h1
        rcases Nat.lt_or_ge i l.size with hl | hl
        · simp [hl] at hli h1; rw [hli] at h1; cases h1
        · simp [Array.getElem?_eq_none hl] at hli
      have hstep := wpOp_putIf hoj (hfree j oj hoj e hun hno) (fun cs b => hsel i oi cs b hi) (fun cs b => hsel j oj cs b hoj) hQ hy (H.2 j (ready_mono hj e))
      refine wpOp_mono (fun a' w' hk => ⟨hk.2.1, hk.2.2.1, ih ?_ (ready_mono hr (Ne.symm e)) hk.1 (hT.on (hk.2.1 hDj)) ?_⟩) hstep
      · intro k ok hok hki hku hkno
        refine hfree k ok hok hki ?_ hkno
        rcases Decidable.em (j = k) with ejk | ejk
        · subst ejk; exact hun
        · rw [getD_set_ne true ejk] at hku; exact hku
      · rw [Array.setIfInBounds_comm _ _ e]; exact hk.2.2.2
theorem monoN_first2 {w0 : World} {i : Nat} {oi : Oper} {v : Value} (hi : ops[i]? = some oi) (hsel : ∀ (j : Nat) (o : Oper) cs b, ops[j]? = some o → o.op ≠ .select cs b) (hQ : ∀ c a w, Q (.panic c) (a.put oi.dst v) w → Q (.panic c) a w) :
    ∀ (n : Nat) {l : Array Bool} {a : Act} {w : World}, (∀ j oj, ops[j]? = some oj → j ≠ i → l.getD j true = false → (∀ e ∈ oj.after, Region.binds md e = true → e.on ≠ i) → oi.apart ops oj = true) →
      i ∈ Region.ready md ops l → YieldsIf P ops (But T w0) oi v a → But T w0 w → monoN P md ops Q T D n (l.setIfInBounds i true) (a.put oi.dst v) w → monoN P md ops Q T D (n + 1) l a w := by
  intro n
  induction n with
  | zero =>
    intro l a w _ hr hy hT H
    refine ⟨fun h => (by rw [h] at hr; cases hr), fun j hj => ?_⟩
    rcases Decidable.em (j = i) with e | e
    · subst e; exact hy.wpOp hi hT ⟨fun _ => Below.refl _ _, But.refl _, H⟩
    · have hm := ready_mono hj e
      rw [H.1] at hm; cases hm
  | succ n ih =>
    intro l a w hfree hr hy hT H
    refine ⟨fun h => (by rw [h] at hr; cases hr), fun j hj => ?_⟩
    rcases Decidable.em (j = i) with e | e
    · subst e; exact hy.wpOp hi hT ⟨fun _ => Below.refl _ _, But.refl _, H⟩
    · obtain ⟨hun, oj, hoj, hall⟩ := mem_ready.1 hj
      have hli := (mem_ready.1 hr).1
      have hno : ∀ k ∈ oj.after, Region.binds md k = true → k.on ≠ i := by
        intro k hk hb hki
        have h1 := hall k hk hb
        rw [hki] at h1
        rcases Nat.lt_or_ge i l.size with hl | hl
        · simp [hl] at hli h1; rw [hli] at h1; cases h1
        · simp [Array.getElem?_eq_none hl] at hli
      have hstep := wpOp_putIf hoj (hfree j oj hoj e hun hno) (fun cs b => hsel i oi cs b hi) (fun cs b => hsel j oj cs b hoj) hQ hy (H.2 j (ready_mono hj e))
      refine wpOp_mono (fun a' w' hk => ⟨hk.2.1, hk.2.2.1, ih ?_ (ready_mono hr (Ne.symm e)) hk.1 (hT.trans hk.2.2.1) ?_⟩) hstep
      · intro k ok hok hki hku hkno
        refine hfree k ok hok hki ?_ hkno
        rcases Decidable.em (j = k) with ejk | ejk
        · subst ejk; exact hun
        · rw [getD_set_ne true ejk] at hku; exact hku
      · rw [Array.setIfInBounds_comm _ _ e]; exact hk.2.2.2
theorem monoN_take {i : Nat} {oi : Oper} {v : Value} {n : Nat} {l : Array Bool} {a : Act} {w : World} (hi : ops[i]? = some oi) (hs : Region.noSelect ops = true) (hf : Region.free md ops l i = true) (hr : (Region.ready md ops l).contains i = true) (hW : waitB md ops D i = true)
    (hQ : ∀ c a w, Q (.panic c) (a.put oi.dst v) w → Q (.panic c) a w) (hy : YieldsIf P ops (Later w) oi v a) (h : monoN P md ops Q T D n (l.setIfInBounds i true) (a.put oi.dst v) w) : monoN P md ops Q T D (n + 1) l a w :=
  monoN_first hi (Region.noSelect_spec hs) hQ hW n (Region.free_spec hi hf) (by simpa using hr) hy (Below.refl _ _) h
theorem monoN_stay {i : Nat} {oi : Oper} {v : Value} {n : Nat} {l : Array Bool} {a : Act} {w : World} (hi : ops[i]? = some oi) (hs : Region.noSelect ops = true) (hf : Region.free md ops l i = true) (hr : (Region.ready md ops l).contains i = true)
    (hQ : ∀ c a w, Q (.panic c) (a.put oi.dst v) w → Q (.panic c) a w) (hy : YieldsIf P ops (But T w) oi v a) (h : monoN P md ops Q T D n (l.setIfInBounds i true) (a.put oi.dst v) w) : monoN P md ops Q T D (n + 1) l a w :=
  monoN_first2 hi (Region.noSelect_spec hs) hQ n (Region.free_spec hi hf) (by simpa using hr) hy (But.refl _) h
def stepN (P : Program) (md : Region.Mode) (ops : Array Oper) (Q : Exit → Act → World → Prop) (T : Nat → Prop) (D : Nat → Bool) (i n : Nat) (l : Array Bool) (a : Act) (w : World) : Prop :=
  wpOp P ops Q i (fun a' w' => (D i = false → Later w w') ∧ But T w w' ∧ monoN P md ops Q T D n (l.setIfInBounds i true) a' w') a w
theorem monoN_r1 {i n : Nat} {l : Array Bool} {a : Act} {w : World} (hr : Region.ready md ops l = [i]) (h : stepN P md ops Q T D i n l a w) : monoN P md ops Q T D (n + 1) l a w := by
  refine ⟨fun h0 => (by rw [h0] at hr; cases hr), fun j hj => ?_⟩
  rw [hr] at hj
  have e : j = i := by simpa using hj
  subst e; exact h
theorem stepN_call {i n : Nat} {o : Oper} {l : Array Bool} {a : Act} {w : World} (ho : ops[i]? = some o) (hg : o.guard = none)
    (h : ∀ K : Act → World → Prop, Shut (∀ a w', (D i = false → Later w w') → But T w w' → monoN P md ops Q T D n (l.setIfInBounds i true) a w' → K a w') → Oper.wp P o a w K Q) : stepN P md ops Q T D i n l a w :=
  wpOp_step ho (fun K hK => by rw [if_pos (by simp [Region.wanted, hg])]; exact h K (fun a w h1 h2 h3 => hK a w ⟨h1, h2, h3⟩))
structure StoreR (b : Nat) (w w1 : World) : Prop where
  but : But (fun k => k = b) w w1
  bel : ∀ {B : Nat} {w0 : World}, B ≤ b → Below B w0 w → Below B w0 w1
theorem StoreR.sets (b : Nat) (vs : List Value) (w : World) (o : Nat) : StoreR b w (w.setCells b o vs) := ⟨But.sets (T := fun k => k = b) rfl vs o, fun hb h => below_setsN hb vs o h⟩
theorem StoreR.size {b : Nat} {w w1 : World} (h : StoreR b w w1) : w.heap.size ≤ w1.heap.size := h.but.size
theorem stepN_store {i n : Nat} {o : Oper} {l : Array Bool} {a : Act} {w : World} (ho : ops[i]? = some o) (hg : o.guard = none) (ty : TypeId) (x y : Operand) (hop : o.op = .store ty x y) (b off : Nat) (cells : Array Value)
    (hx : a.eval x = .pointer (some ⟨b, off, none⟩)) (hy : a.eval y = .agg cells) {C : Array Value} {tb : TypeId} (hO : Own w b C tb) (hn : off + cells.size ≤ C.size) (hi : (P.info? ty).map (·.size) = some cells.size) (h1 : cells.all (·.oneCell') = true) (hD : D i = true) (hT : T b)
    (h : ∀ w1, StoreR b w w1 → Own w1 b (setArrN C off cells.toList) tb → monoN P md ops Q T D n (l.setIfInBounds i true) (a.put o.dst undef) w1) : stepN P md ops Q T D i n l a w :=
  stepN_call ho hg fun K hK =>
    wp_store_mid ty x y hop b off cells hx hy (fun j hj => by
      rw [hO.cell (off + j)]
      exact ⟨by rw [Array.getElem?_eq_getElem (by omega)]; rfl, hO.free (off + j)⟩) hi h1 (hK.out _ _ (fun h => by rw [hD] at h; cases h) (But.sets hT _ _) (h _ (StoreR.sets _ _ _ _) (own_setsN _ _ hO)))
theorem stepN_store1 {i n : Nat} {o : Oper} {l : Array Bool} {a : Act} {w : World} (ho : ops[i]? = some o) (hg : o.guard = none) (b off : Nat) (v : Value) {C : Array Value} {tb : TypeId} (hO : Own w b C tb)
    (hrun : (execOp a.eval o).run P w = .ok .skip (w.setCell ⟨b, off, none⟩ v)) (hD : D i = true) (hT : T b)
    (h : ∀ w1, StoreR b w w1 → Own w1 b (C.setIfInBounds off v) tb → monoN P md ops Q T D n (l.setIfInBounds i true) (a.put o.dst undef) w1) : stepN P md ops Q T D i n l a w :=
  stepN_call ho hg fun K hK => by
    unfold Oper.wp
    rw [hrun, Oper.upon_skip]
    exact hK.out _ _ (fun h => by rw [hD] at h; cases h) (But.set hT v) (h _ (StoreR.sets b [v] w off) (hO.set off v))
structure AppR (row : Option Nat) (w w1 : World) : Prop where
  but : But (fun k => some k = row) w w1
  bel : ∀ {B : Nat} {w0 : World}, (∀ k, some k = row → B ≤ k) → Below B w0 w → B ≤ w.heap.size → Below B w0 w1
theorem AppR.of {row : Option Nat} {w w1 : World} (h : w.grownBy w1 row) : AppR row w w1 :=
  ⟨⟨h.size, fun b hb ht => h.block b hb ht⟩, fun hk hb hB => hb.grown h hB (fun k e => hk k e.symm)⟩
theorem monoN_start {id : Nat} {a : Act} {w : World} (hm : P.follows .mixedOrders = true) (h : ∀ w1, Later w w1 → monoN P .any ops Q T D ops.size (Array.replicate ops.size false) a w1) : (Code.region id ops true).wp P Q a w :=
  wp_region_any hm (monoN_any _ (h _ (Below.refl _ _).drew))
theorem monoN_done {l : Array Bool} {a : Act} {w : World} (hr : Region.ready md ops l = []) (h : Q .normal a w) : ∀ n, monoN P md ops Q T D n l a w
  | 0 => ⟨hr, h⟩
  | _ + 1 => ⟨fun _ => h, by rw [hr]; simp⟩
end
end Go.Proofs.YtjkcooakddlppaaGreat
