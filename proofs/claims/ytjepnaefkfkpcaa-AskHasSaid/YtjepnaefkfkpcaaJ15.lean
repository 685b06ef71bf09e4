/- Joined: Tree, Left, Conv, RefSame, Known. -/
import Derived.Test.YtjepnaefkfkpcaaJ09
import Derived.Test.YtjepnaefkfkpcaaJ12
import Derived.Test.YtjepnaefkfkpcaaJ13
import Derived.Deep.Slices
import Derived.Test.YtjepnaefkfkpcaaJ01
import Derived.Deep.RegionHeld3
import Derived.Deep.RegionLaw
import Derived.Deep.DrawnRows
import Derived.Test.YtjepnaefkfkpcaaJ08
/- An argument that is a Tree: opened to its parts. -/
namespace Go.Proofs.Ytjepnaefkfkpcaa
set_option linter.unusedVariables false
set_option linter.unusedSimpArgs false
set_option maxRecDepth 100000
open Go.ChangeShapes Go.WideShapes Go.ChangeAt Go.RowKit Go.Deep
section
variable {H : Type} {enc : TypeId × Value → H} {w : World} {base : Nat} {spare : Nat → Bool} {held : Bool}
set_option maxRecDepth 100000 in
theorem trod_kids (fuel : Nat) (ih : ∀ n, n < fuel → ∀ (cs : List Value) (x : DataW H × List MemPlace), DataW.trod enc Try.prog w base spare held n 25 cs = some x → ∃ p v, cs = tc p v ∧ Lies 6 tc (fun b => b < w.heap.size) w p v)
    {cs : List Value} {x : DataW H × List MemPlace} (h : DataW.trod enc Try.prog w base spare held fuel 23 cs = some x) :
    ∃ (kids : List Pr) (v : Value), cs = [v] ∧ ∀ op (t : ByteArray) n y z, t.size ≤ maxLen → Lies 6 tc (fun b => b < w.heap.size) w (.node op t n y z kids) v := by
  rcases DataW.trod_slice Try.underlying23 h with ⟨rfl, _⟩ | ⟨a, len, cap, elems, rest, n, hf, rfl, _, hb, hl, hm, hlen, hel, _, _⟩
  · exact ⟨[], _, rfl, fun op t n y z ht => .mk op t n y z [] none 0 0 0 (fun _ => .nilFunc) ht (Nat.le_refl _) (Nat.zero_le _) (fun h => absurd h (Nat.lt_irrefl _)) (fun i p h => by simp at h) (fun i p h => by simp at h)⟩
  · have hC : Try.prog.cellsOf 25 = 6 := by kernel_rfl
    rw [hC] at hel
    have key : ∀ i, i < len → ∃ p v, (∀ j u, (tc p v)[j]? = some u → w.cell? (a.add (i * 6 + j)) = some u) ∧ Lies 6 tc (fun b => b < w.heap.size) w p v := by
      intro i hi
      have h1 := hel i hi
      rw [List.getElem?_eq_getElem (by omega)] at h1
      obtain ⟨cs', h2, h3⟩ := Option.bind_eq_some_iff.1 h1
      obtain ⟨_, hcl, hat⟩ := World.cells?_some h2
      obtain ⟨p, v, rfl, hL⟩ := ih n (by omega) cs' _ h3
      refine ⟨p, v, fun j u hu => ?_, hL⟩
      have hj : j < 6 := by
        have := (List.getElem?_eq_some_iff.1 hu).1; simpa [tc] using this
      rw [← Go.Deep.add_add, hat j hj, hu]
    classical
    let P : Nat → Pr := fun i => if h : i < len then (key i h).choose else .node 0 ⟨#[]⟩ 0 0 0 []
    let V : Nat → Value := fun i => if h : i < len then (key i h).choose_spec.choose else .nilFunc
    have hPV : ∀ i, i < len → (∀ j u, (tc (P i) (V i))[j]? = some u → w.cell? (a.add (i * 6 + j)) = some u) ∧ Lies 6 tc (fun b => b < w.heap.size) w (P i) (V i) := by
      intro i hi
      have := (key i hi).choose_spec.choose_spec
      simp only [P, V, dif_pos hi]
      exact this
    have hk : ∀ (i : Nat) (q : Pr), ((List.range len).map P)[i]? = some q → i < len ∧ q = P i := by
      intro i q hq
      rw [List.getElem?_map] at hq
      cases h : (List.range len)[i]? with
      | none => rw [h] at hq; cases hq
      | some k =>
        rw [h] at hq
        obtain ⟨h1, h2⟩ := List.getElem?_eq_some_iff.1 h
        simp at h1 h2 hq
        subst h2
        exact ⟨h1, hq.symm⟩
    have hlk : ((List.range len).map P).length = len := by simp
    have hs : 0 < len → a.spot = none ∧ a.block < w.heap.size := by
      intro h0
      have h1 := (hPV 0 h0).1 0 _ rfl
      have e : a.add (0 * 6 + 0) = a := by simp [Addr.add]
      rw [e] at h1
      exact ⟨World.cell?_spot h1, World.block_lt_of_cell? w _ h1⟩
    refine ⟨(List.range len).map P, _, rfl, fun op t n y z ht => ?_⟩
    have := Lies.mk (sz := 6) (c := tc) (S := fun b => b < w.heap.size) (w := w) op t n y z ((List.range len).map P) (some a) cap a.block a.off V ht (by rw [hlk]; exact hl) hm
      (fun h => by
        rw [hlk] at h
        refine ⟨?_, (hs h).2⟩
        have h1 := (hs h).1
        obtain ⟨b, o, s⟩ := a
        simp only at h1; subst h1; rfl)
      (fun i p hp j u hu => by
        obtain ⟨hi, rfl⟩ := hk i p hp
        have h1 := (hPV i hi).1 j u hu
        rw [addr_at (hs (by omega)).1] at h1
        rw [Nat.add_assoc]; exact h1)
      (fun i p hp => by
        obtain ⟨hi, rfl⟩ := hk i p hp
        exact (hPV i hi).2)
    rw [hlk] at this
    exact this
set_option maxRecDepth 100000 in
theorem trod_tree (fuel : Nat) : ∀ (cs : List Value) (x : DataW H × List MemPlace), DataW.trod enc Try.prog w base spare held fuel 25 cs = some x → ∃ p v, cs = tc p v ∧ Lies 6 tc (fun b => b < w.heap.size) w p v := by
  induction fuel using Nat.strongRecOn with
  | ind fuel ih =>
    intro cs x h
    obtain ⟨xs, n, hn, hx, hl, hxl, hf⟩ := DataW.trod_struct Try.underlying25 h
    have hl' : cs.length = 6 := hl.trans (by kernel_rfl)
    have F := fun i f hi => field_at (P := Try.prog) (by kernel_rfl) (by rw [hl']; rfl) hxl hf i f hi
    match cs, hl' with
    | [c0, c1, c2, c3, c4, c5], _ =>
      obtain ⟨_, _, e0, t0⟩ := F 0 _ rfl
      obtain ⟨_, _, e1, t1⟩ := F 1 _ rfl
      obtain ⟨_, _, e2, t2⟩ := F 2 _ rfl
      obtain ⟨_, _, e3, t3⟩ := F 3 _ rfl
      obtain ⟨_, _, e4, t4⟩ := F 4 _ rfl
      obtain ⟨_, _, e5, t5⟩ := F 5 _ rfl
      obtain ⟨s0, k0, _, z0⟩ := DataW.trod_int Try.underlying3 t0
      obtain ⟨s1, k1, _, z1⟩ := DataW.trod_string Try.underlying9 t1
      obtain ⟨s2, k2, _, z2⟩ := DataW.trod_int Try.underlying3 t2
      obtain ⟨s3, k3⟩ := trod_float Try.underlying22 t3
      obtain ⟨s4, k4⟩ := trod_float Try.underlying22 t4
      obtain ⟨kids, v, k5, hL⟩ := trod_kids n (fun n' hn' => ih n' (by omega)) t5
      simp only [List.cons.injEq, and_true] at k0 k1 k2 k3 k4 k5
      simp at e0 e1 e2 e3 e4 e5
      subst e0 e1 e2 e3 e4 e5 k0 k1 k2 k3 k4 k5
      exact ⟨.node s0 s1 s2 s3 s4 kids, _, rfl, hL _ _ _ _ _ z1⟩
end
end Go.Proofs.Ytjepnaefkfkpcaa
/- How many parts are left behind a filter's: the walk; whether a filter is small. -/
namespace Go.Proofs.Ytjepnaefkfkpcaa
set_option linter.unusedVariables false
set_option linter.unusedSimpArgs false
set_option maxRecDepth 100000
open Go.RowKit
def leftN (s m : Int) : Int := if s ≤ m then m - s else -1
theorem leftN_neg {s r : Int} (h : 0 ≤ r) (h1 : leftN s r < 0) : r < s := by
  unfold leftN at h1; split at h1 <;> omega
theorem leftN_pos {s r : Int} (h1 : 0 ≤ leftN s r) : s ≤ r := by
  unfold leftN at h1; split at h1 <;> omega
def LeftRel (l : List Pr) (len : Nat) (m : Int) (w0 : World) (most i : Value) (wr : World) : Prop :=
  ∃ (k : Nat) (r : Int), k ≤ len ∧ i = .int .i64 k ∧ most = .int .i64 r ∧ 0 ≤ r ∧ r ≤ 60 ∧ Hid (r = m - (1 + Pr.sizes (l.take k) : Nat)) ∧ Below w0.heap.size w0 wr
set_option maxHeartbeats 1000000 in
theorem left_calls (p : Pr) : ∀ (v : Value) (m : Int) (w : World), LT w p v → -1 ≤ m → m ≤ 60 →
    Calls Try.prog 30 #[.agg #[.int .i64 p.op, .string p.text, .int .i64 p.n, .float .f64 p.x, .float .f64 p.y, v], .int .i64 m] w fun e w' => e = .returned (.int .i64 (leftN p.size m)) ∧ Below w.heap.size w w' := by
  induction p using Pr.ind with
  | h op t n x y kids ih =>
    intro v m w hL h1 h2
    obtain ⟨oa, cap, b, o, V, rfl, ht, hl, hc, hn, hcell, hrec⟩ := lies_slice hL
    simp only [Pr.kids_node, Pr.text_node, Pr.op_node, Pr.n_node, Pr.x_node, Pr.y_node, Pr.size] at *
    by_cases h0 : m ≤ 0
    · have e : leftN (1 + Pr.sizes kids : Nat) m = -1 := by unfold leftN; rw [if_neg (by omega)]
      rw [e]
      clear e
      go_enter Try.func30, Try.ntmps30
      go_wp2_with fail
      go_ret
      exact ⟨rfl, (Below.refl _ _).alloc (Nat.le_refl _) _⟩
    · unfold maxLen at hc
      have E := Lib.hid (rfl : leftN (1 + Pr.sizes kids : Nat) m = leftN (1 + Pr.sizes kids : Nat) m)
      have HL := Lib.hid hL
      have HC := Lib.hid hcell
      have HR := Lib.hid hrec
      have HN := Lib.hid hn
      have HI := Lib.hid ih
      clear hL hcell hrec hn ih
      generalize hlen : kids.length = len at *
      have HLEN := Lib.hid hlen
      clear hlen
      go_enter Try.func30, Try.ntmps30
      go_wp2_with fail
      go_loopw [1, 5] (fun most i wr => LeftRel kids len m (w.alloc (.cells #[.int .i64 op, .string t, .int .i64 n, .float .f64 x, .float .f64 y, .slice oa len cap] 25)) most i wr) (fun _ i _ => len - (intOf i).toNat)
      case atStart => exact ⟨0, m - 1, Nat.zero_le _, rfl, rfl, by omega, by omega, by simp [Hid, Pr.sizes], Below.refl _ _⟩
      case round =>
        obtain ⟨k, r, hk, rfl, rfl, hr0, hr1, HRr, hb⟩ := hrel
        have g := (Has.new w #[.int .i64 op, .string t, .int .i64 n, .float .f64 x, .float .f64 y, .slice oa len cap] 25).below hb (by simp)
        by_cases hlt : k < len
        · obtain ⟨q, hq⟩ : ∃ q, kids[k]? = some q := ⟨_, List.getElem?_eq_getElem (by rw [HLEN.out]; exact hlt)⟩
          obtain ⟨rfl, hS⟩ := HN.out (by omega)
          have hbw : Below w.heap.size w wr := ((Below.refl _ _).alloc (Nat.le_refl _) _).trans (hb.mono (by simp))
          obtain ⟨c0, c1, c2, c3, c4, c5⟩ := tc_cells (w := wr) (fun j u hu => (hbw.cell (p := ⟨b, o + k * 6 + j, none⟩) hS).trans (HC.out k q hq j u hu))
          have CC := HI.out q (List.mem_of_getElem? hq) (V k) r wr ((HR.out k q hq).later hbw (Nat.le_refl _)) (by omega) (by omega)
          have HB := Lib.hid hb
          have HQ := Lib.hid hq
          clear hb hbw hq
          have l := g.cell
          have z := g.lt
          clear g
          go_wp2_with (go_at_call 30; refine CC.mono ?_; rintro e w' ⟨rfl, hb'⟩)
          · have hneg : leftN q.size r < 0 := by assumption
            have hbig : r < (q.size : Int) := leftN_neg hr0 hneg
            have h3 := Pr.sizes_take HQ.out
            have h4 := Pr.sizes_take_le kids (k + 1)
            have h5 := HRr.out
            go_ret
            exact ⟨ret_int (by unfold leftN; rw [if_neg (by omega)]), below_new (HB.out.trans (hb'.mono HB.out.size))⟩
          · have hneg : 0 ≤ leftN q.size r := by assumption
            have hbig : (q.size : Int) ≤ r := leftN_pos hneg
            have h3 := Pr.sizes_take HQ.out
            have h5 := HRr.out
            have h6 := Pr.size_pos q
            have h7 : leftN q.size r = r - q.size := if_pos hbig
            go_roundw
            case rel => exact ⟨k + 1, r - q.size, by omega, by go_num, by rw [h7], by omega, by omega, by unfold Hid; rw [h3]; omega, HB.out.trans (hb'.mono HB.out.size)⟩
            case measure => simp [intOf]; omega
        · have HB := Lib.hid hb
          clear hb
          have l := g.cell
          have z := g.lt
          clear g
          have e : k = len := by omega
          have h5 := HRr.out
          rw [Pr.take_all kids (by rw [HLEN.out]; omega)] at h5
          have H5 := Lib.hid h5
          clear h5 e
          go_wp2_with fail
          go_ret
          have h5 := H5.out
          exact ⟨ret_int (by unfold leftN; rw [if_pos (by omega)]; exact h5), below_new HB.out⟩
set_option maxHeartbeats 1000000 in
theorem small_calls (p : Pr) (v : Value) (w : World) (hL : LT w p v) :
    Calls Try.prog 14 #[.agg #[.int .i64 p.op, .string p.text, .int .i64 p.n, .float .f64 p.x, .float .f64 p.y, v]] w fun e w' => e = .returned (.int .i64 (if p.size ≤ 60 then 1 else 0)) ∧ Below w.heap.size w w' := by
  have H := fun w' h => Lib.hid (left_calls p v 60 w' h (by omega) (by omega))
  have L1 := fun o => Lib.hid (hL.atAlloc o)
  clear hL
  by_cases h : p.size ≤ 60
  · have h1 : leftN p.size 60 = 60 - p.size := if_pos (by omega)
    have h2 : ¬ (leftN p.size 60 < 0) := by omega
    rw [if_pos h]
    clear h1
    go_enter Try.func14, Try.ntmps14
    go_wp2_with (go_at_call 30; refine (H _ (L1 _).out).out.mono ?_; rintro e w' ⟨rfl, hb⟩)
    go_ret
    exact ⟨rfl, below_new hb⟩
  · have h1 : leftN p.size 60 = -1 := if_neg (by omega)
    have h2 : leftN p.size 60 < 0 := by omega
    rw [if_neg h]
    clear h1
    go_enter Try.func14, Try.ntmps14
    go_wp2_with (go_at_call 30; refine (H _ (L1 _).out).out.mono ?_; rintro e w' ⟨rfl, hb⟩)
    go_ret
    exact ⟨rfl, below_new hb⟩
end Go.Proofs.Ytjepnaefkfkpcaa
/- A filter made of a Tree: the walk. -/
namespace Go.Proofs.Ytjepnaefkfkpcaa
set_option linter.unusedVariables false
set_option linter.unusedSimpArgs false
set_option maxRecDepth 100000
open Go.RowKit
theorem info_pred : (Try.prog.info? 39).map (fun i => (i.zero, i.size, i.bytes)) = some (some (.agg #[.int .i64 0, .string ⟨#[]⟩, .int .i64 0, .complex .f64 0 0, .slice none 0 0]), 5, 72) := by kernel_rfl
def ConvOut (p : Pr) (w : World) (e : Ending) (w' : World) : Prop :=
  ∃ v', e = .returned (.agg #[.int .i64 p.op, .string p.text, .int .i64 p.n, .complex .f64 p.x p.y, v']) ∧ Lies 5 pc (fun b => w.heap.size ≤ b ∧ b < w'.heap.size) w' p v' ∧ Below w.heap.size w w'
def Laid (l : List Pr) (k : Nat) (xs : List Value) (V : Nat → Value) : Prop := ∀ i p, i < k → l[i]? = some p → ∀ j u, (pc p (V i))[j]? = some u → xs[i * 5 + j]? = some u
def ConvRel (op : Int) (t : ByteArray) (n : Int) (x y : Nat) (kids : List Pr) (len : Nat) (v : Value) (w : World) (i : Value) (wr : World) : Prop :=
  ∃ (k : Nat) (sl : Value) (xs : List Value) (V : Nat → Value), k ≤ len ∧ i = .int .i64 k ∧
    Own wr w.heap.size #[.int .i64 op, .string t, .int .i64 n, .float .f64 x, .float .f64 y, v] 25 ∧
    Own wr (w.heap.size + 1) #[.int .i64 0, .string ⟨#[]⟩, .int .i64 0, .complex .f64 0 0, .slice none 0 0] 39 ∧
    Own wr (w.heap.size + 1 + 1) #[.int .i64 op, .string t, .int .i64 n, .complex .f64 x y, sl] 39 ∧
    wr.ownsRow (w.heap.size + 3) 39 5 sl k xs ∧ Laid kids k xs V ∧
    (∀ i p, i < k → kids[i]? = some p → Lies 5 pc (fun b => w.heap.size + 3 ≤ b ∧ b < wr.heap.size ∧ some b ≠ sl.ownBlock) wr p (V i)) ∧ Below w.heap.size w wr
theorem laid_step {l : List Pr} {k : Nat} {xs : List Value} {V : Nat → Value} {q : Pr} {v2 : Value} (hx : xs.length = k * 5) (h : Laid l k xs V) (hq : l[k]? = some q) : Laid l (k + 1) (xs ++ pc q v2) (fun i => if i = k then v2 else V i) := by
  intro i p hi hp j u hu
  by_cases e : i = k
  · subst e
    rw [hq] at hp; cases hp
    simp only [if_true] at hu
    rw [List.getElem?_append_right (by omega), hx, show i * 5 + j - i * 5 = j by omega]
    exact hu
  · simp only [if_neg e] at hu
    have h1 := h i p (by omega) hp j u hu
    rw [List.getElem?_append_left (List.getElem?_eq_some_iff.1 h1).1]
    exact h1
theorem conv_step {op : Int} {t : ByteArray} {n : Int} {x y : Nat} {kids : List Pr} {len : Nat} {v : Value} {w wr w2 w3 : World} {k g cap' : Nat} {sl v2 : Value} {xs : List Value} {V : Nat → Value} {q : Pr} (hk : k < len) (hq : kids[k]? = some q)
    (o1 : Own wr w.heap.size #[.int .i64 op, .string t, .int .i64 n, .float .f64 x, .float .f64 y, v] 25)
    (o2 : Own wr (w.heap.size + 1) #[.int .i64 0, .string ⟨#[]⟩, .int .i64 0, .complex .f64 0 0, .slice none 0 0] 39)
    (o3 : Own wr (w.heap.size + 1 + 1) #[.int .i64 op, .string t, .int .i64 n, .complex .f64 x y, sl] 39)
    (hown : wr.ownsRow (w.heap.size + 3) 39 5 sl k xs) (hlaid : Laid kids k xs V)
    (hlies : ∀ i p, i < k → kids[i]? = some p → Lies 5 pc (fun b => w.heap.size + 3 ≤ b ∧ b < wr.heap.size ∧ some b ≠ sl.ownBlock) wr p (V i)) (hb : Below w.heap.size w wr)
    (hl2 : Lies 5 pc (fun b => wr.drew.heap.size ≤ b ∧ b < w2.heap.size) w2 q v2) (hb2 : Below wr.drew.heap.size wr.drew w2)
    (hown3 : w3.ownsRow (w.heap.size + 3) 39 5 (.slice (some ⟨g, 0, none⟩) (k + 1) cap') (k + 1) (xs ++ pc q v2))
    (hgrow : (w2.alloc (.cells #[.int .i64 q.op, .string q.text, .int .i64 q.n, .complex .f64 q.x q.y, v2] 39)).grownBy w3 sl.ownBlock) (hat : sl.ownBlock = some g ∨ g = w2.heap.size + 1) :
    ConvRel op t n x y kids len v w (.int .i64 (k + 1 : Nat)) (w3.setCell ⟨w.heap.size + 1 + 1, 4, none⟩ (.slice (some ⟨g, 0, none⟩) (k + 1) cap')) := by
  have n1 := own_ne hown (b := w.heap.size) (by omega)
  have n2 := own_ne hown (b := w.heap.size + 1) (by omega)
  have n3 := own_ne hown (b := w.heap.size + 1 + 1) (by omega)
  have s2 : wr.heap.size ≤ w2.heap.size := hb2.size
  have s3 : w2.heap.size + 1 ≤ w3.heap.size := by have := hgrow.size; simpa using this
  have hsz : ∀ a u, (w3.setCell a u).heap.size = w3.heap.size := fun a u => by simp [World.setCell]
  have zw := hb.size
  have b1 : Below w.heap.size w (w2.alloc (.cells #[.int .i64 q.op, .string q.text, .int .i64 q.n, .complex .f64 q.x q.y, v2] 39)) := (hb.drew.trans (hb2.mono zw)).alloc (by omega) _
  have b2 : Below w.heap.size w w3 := b1.grown hgrow (by simp; omega) (fun j hj => by have := hown.lt j hj; omega)
  have hb4 : Below w.heap.size w (w3.setCell ⟨w.heap.size + 1 + 1, 4, none⟩ (.slice (some ⟨g, 0, none⟩) (k + 1) cap')) := b2.setCell (by show _ ≤ w.heap.size + 1 + 1; omega) _
  have hlt3 : ∀ j, sl.ownBlock = some j → j < wr.heap.size := fun j hj => (hown.lt j hj).2
  have hg : ∀ b, b < w2.heap.size → some b ≠ sl.ownBlock → b ≠ g := by
    intro b h1 h2 e
    rcases hat with h | h
    · exact h2 (by rw [e, h])
    · omega
  refine ⟨k + 1, _, xs ++ pc q v2, fun i => if i = k then v2 else V i, hk, rfl, (((o1.drew.later hb2).alloc _).grown hgrow n1).setFar ⟨w.heap.size + 1 + 1, 4, none⟩ _ (by show _ ≠ w.heap.size + 1 + 1; omega), (((o2.drew.later hb2).alloc _).grown hgrow n2).setFar ⟨w.heap.size + 1 + 1, 4, none⟩ _ (by show _ ≠ w.heap.size + 1 + 1; omega),
    ?_, ownsRow_setCell_below hown3 (by simp) _, laid_step hown.1 hlaid hq, ?_, hb4⟩
  · have := (((o3.drew.later hb2).alloc _).grown hgrow n3).set 4 (.slice (some ⟨g, 0, none⟩) (k + 1) cap')
    simpa using this
  · intro i p hi hp
    by_cases e : i = k
    · subst e
      rw [hq] at hp; cases hp
      simp only [if_true]
      refine hl2.mono (fun b o h => ?_) (fun b h => ?_)
      · have h1 : some b ≠ sl.ownBlock := fun e => by have := hlt3 b e.symm; have : wr.heap.size ≤ b := h.1; omega
        rw [World.cell?_of_block (Below.heap_setCell _ _ _ _ (by have : wr.heap.size ≤ b := h.1; have := hb.size; have := o3.lt; simp; omega))]
        rw [hgrow.cell_far _ (by have := h.2; simp; omega) h1]
        exact World.cell?_of_block (Below.heap_alloc _ _ _ h.2)
      · have h1 : some b ≠ sl.ownBlock := fun e => by have := hlt3 b e.symm; have : wr.heap.size ≤ b := h.1; omega
        have h0 : wr.heap.size ≤ b := h.1
        refine ⟨by have := o3.lt; omega, by rw [hsz]; have := h.2; omega, ?_⟩
        simp only [Value.ownBlock, ne_eq, Option.some.injEq]
        exact hg b h.2 h1
    · simp only [if_neg e]
      refine (hlies i p (by omega) hp).mono (fun b o h => ?_) (fun b h => ?_)
      · rw [World.cell?_of_block (Below.heap_setCell _ _ _ _ (by simp; omega))]
        rw [hgrow.cell_far _ (by simp; omega) h.2.2]
        rw [World.cell?_of_block (Below.heap_alloc _ _ _ (by simp; omega))]
        exact hb2.cell (p := ⟨b, o, none⟩) h.2.1
      · refine ⟨h.1, by rw [hsz]; omega, ?_⟩
        simp only [Value.ownBlock, ne_eq, Option.some.injEq]
        exact hg b (by omega) h.2.2
theorem conv_end {op : Int} {t : ByteArray} {n : Int} {x y : Nat} {kids : List Pr} {B : Nat} {wr W : World} {cap' : Nat} {oa : Option Addr} {xs : List Value} {V : Nat → Value} {k : Nat} (hk : kids.length = k) (ht : t.size ≤ maxLen)
    (hown : wr.ownsRow (B + 3) 39 5 (.slice oa k cap') k xs) (hlaid : Laid kids k xs V)
    (hlies : ∀ i p, i < k → kids[i]? = some p → Lies 5 pc (fun b => B + 3 ≤ b ∧ b < wr.heap.size ∧ some b ≠ (Value.slice oa k cap').ownBlock) wr p (V i))
    (hW : ∀ b o, B + 3 ≤ b → W.cell? ⟨b, o, none⟩ = wr.cell? ⟨b, o, none⟩) (hs : W.heap.size = wr.heap.size) :
    Lies 5 pc (fun b => B ≤ b ∧ b < W.heap.size) W (.node op t n x y kids) (.slice oa k cap') := by
  subst hk
  obtain ⟨oa', cap2, g, e, h1, h2, hg⟩ := row_slice hown
  cases e
  refine .mk op t n x y kids oa cap' g 0 V ht h1 h2 (fun h => ⟨(hg h).1, by have := (hg h).2.1; omega, by rw [hs]; exact (hg h).2.2⟩) (fun i p hp j u hu => ?_) fun i p hp => ?_
  · have hi := some_pos hp
    obtain ⟨rfl, hb, _⟩ := hg (by omega)
    have h3 := hlaid i p hi hp j u hu
    rw [hW _ _ hb, Nat.zero_add, hown.cellAt _ (by have := (List.getElem?_eq_some_iff.1 h3).1; rw [hown.1] at this; exact this)]
    exact h3
  · exact (hlies i p (some_pos hp) hp).mono (fun b o h => hW b o h.1) fun b h => ⟨by omega, by rw [hs]; exact h.2.1⟩
theorem conv_far {wr w2 w3 : World} {base : Nat} {e : TypeId} {size : Nat} {v : Value} {n : Nat} {xs : List Value} {ob : Obj} (hown : wr.ownsRow base e size v n xs) (hb2 : Below wr.drew.heap.size wr.drew w2) (hgrow : (w2.alloc ob).grownBy w3 v.ownBlock) {c : Nat} (hc : c < base) (hl : c < wr.heap.size) :
    ∀ o, w3.cell? ⟨c, o, none⟩ = wr.cell? ⟨c, o, none⟩ := fun o => by
  have h2 : wr.heap.size ≤ w2.heap.size := hb2.size
  rw [hgrow.cell_far _ (by simp; omega) (own_ne hown hc), World.cell?_of_block (Below.heap_alloc _ _ _ (by show c < _; omega))]
  exact hb2.cell (p := ⟨c, o, none⟩) hl
theorem near_far {wr w2 : World} (hb2 : Below wr.drew.heap.size wr.drew w2) {c : Nat} (hl : c < wr.heap.size) : ∀ o, w2.cell? ⟨c, o, none⟩ = wr.cell? ⟨c, o, none⟩ := fun o => hb2.cell (p := ⟨c, o, none⟩) hl
theorem near_far2 {wr w2 : World} (hb2 : Below wr.drew.heap.size wr.drew w2) {c : Nat} (hl : c < wr.heap.size) : ∀ o ob, (w2.alloc ob).cell? ⟨c, o, none⟩ = wr.cell? ⟨c, o, none⟩ := fun o ob => by
  have h2 : wr.heap.size ≤ w2.heap.size := hb2.size
  rw [World.cell?_of_block (Below.heap_alloc _ _ _ (by show c < _; omega))]
  exact near_far hb2 hl o
attribute [local go_sem ↓] Go.wp_at_zero Go.wp_at_succ
set_option maxHeartbeats 4000000 in
theorem conv_calls (p : Pr) : ∀ (v : Value) (w : World), LT w p v → p.size ≤ 60 →
    Calls Try.prog 16 #[.agg #[.int .i64 p.op, .string p.text, .int .i64 p.n, .float .f64 p.x, .float .f64 p.y, v]] w (ConvOut p w) := by
  induction p using Pr.ind with
  | h op t n x y kids ih =>
    intro v w hL hsz
    obtain ⟨oa, cap, b, o, V, rfl, ht, hl, hc, hn, hcell, hrec⟩ := lies_slice hL
    simp only [Pr.kids_node, Pr.text_node, Pr.op_node, Pr.n_node, Pr.x_node, Pr.y_node, Pr.size] at *
    unfold maxLen at hc
    have h60 := Pr.len_le_sizes kids
    have HL := Lib.hid hL
    have HC := Lib.hid hcell
    have HR := Lib.hid hrec
    have HN := Lib.hid hn
    have HI := Lib.hid ih
    clear hL hcell hrec hn ih
    generalize hlen : kids.length = len at *
    have HLEN := Lib.hid hlen
    clear hlen
    go_enter Try.func16, Try.ntmps16
    go_wp2_with fail
    go_loopw [4] (fun i wr => ConvRel op t n x y kids len (.slice oa len cap) w i wr) (fun i _ => len - (intOf i).toNat)
    case atStart =>
      exact ⟨0, .slice none 0 0, [], fun _ => .nilFunc, Nat.zero_le _, rfl, (((Own.new w _ _).alloc _).alloc _), ((Own.newAt _ _ _ (by simp)).alloc _), Own.newAt _ _ _ (by simp), World.ownsRow_nil _ _ _ _, fun i p h => absurd h (Nat.not_lt_zero _), fun i p h => absurd h (Nat.not_lt_zero _), (((Below.refl _ _).alloc (Nat.le_refl _) _).alloc (by simp) _).alloc (by simp; omega) _⟩
    case round =>
      obtain ⟨k, sl, xs, V', hk, rfl, o1, o2, o3, hown, hlaid, hlies, hb⟩ := hrel
      by_cases hlt : k < len
      · obtain ⟨q, hq⟩ : ∃ q, kids[k]? = some q := ⟨_, List.getElem?_eq_getElem (by rw [HLEN.out]; exact hlt)⟩
        obtain ⟨rfl, hS⟩ := HN.out (by omega)
        obtain ⟨c0, c1, c2, c3, c4, c5⟩ := tc_cells (w := wr) (fun j u hu => (hb.cell (p := ⟨b, o + k * 6 + j, none⟩) hS).trans (HC.out k q hq j u hu))
        have hqs := Pr.size_mem (List.mem_of_getElem? hq)
        have CC := HI.out q (List.mem_of_getElem? hq) (V k) wr.drew ((HR.out k q hq).later hb.drew (Nat.le_refl _)) (by omega)
        have HB := Lib.hid hb
        have HQ := Lib.hid hq
        have HLA := Lib.hid hlaid
        have HLI := Lib.hid hlies
        clear hb hq hlaid hlies
        obtain ⟨i0, hi, hz0, hz1, hz2⟩ := info_parts info_pred
        have l1 := o1.cell 5
        have l3 := o3.cell 4
        have z1 := o1.lt
        have z3 := o3.lt
        have zb : b < wr.heap.size := Nat.lt_of_lt_of_le hS HB.out.size
        simp at l1 l3
        go_wp2_with fail
        go_region_law
          (first
            | (go_simp; go_at_call 16; refine CC.mono ?_; rintro e w2 ⟨v2, rfl, hl2, hb2⟩; have gb := near_far hb2 zb; have g1 := near_far hb2 z1; have g3 := near_far hb2 z3; have a3 := near_far2 hb2 z3)
            | ((refine step_append_lies _ (by rfl) _ _ _ (by rfl) (w.heap.size + 3) 39 i0 _ 5 72 Try.underlying37 hi hz0 hz1 hz2 rfl (by omega) sl k xs (by rfl) ((ownsRow_below hown.drew hb2).alloc _) ⟨w2.heap.size, 0, none⟩ 1 1 (pc q v2) (by rfl) (by rfl) (World.news_of_block (cs := #[.int .i64 q.op, .string q.text, .int .i64 q.n, .complex .f64 q.x q.y, v2]) (t := 39) (fr := (0, 0)) (heap_alloc_new w2 _)) (pc_one (lies_one hl2)) (by omega) (by unfold maxLen; omega) (by omega) (by have : wr.heap.size ≤ w2.heap.size := hb2.size; simp; omega) (w2.heap.size + 1) (by simp) ?_; intro g cap' w3 hown3 hgrow hat hlt3; have fz := (((o3.drew.later hb2).alloc _).grown hgrow (own_ne hown (by omega))).free 4; have fb := conv_far hown hb2 hgrow (c := b) (by omega) zb; have f1 := conv_far hown hb2 hgrow (c := w.heap.size) (by omega) z1; have f3 := conv_far hown hb2 hgrow (c := w.heap.size + 1 + 1) (by omega) z3)))
        all_goals
          have R := conv_step (v := .slice (some ⟨b, o, none⟩) len cap) hlt HQ.out o1 o2 o3 hown HLA.out HLI.out HB.out hl2 hb2 hown3 hgrow hat
          go_wp2_with fail
          go_roundw
          case rel => exact R
          case measure => simp [intOf]; omega
      · have e : k = len := by omega
        subst e
        obtain ⟨oa', cap', g, rfl, hc1, hc2, hg⟩ := row_slice hown
        have HB := Lib.hid hb
        have HLA := Lib.hid hlaid
        have HLI := Lib.hid hlies
        have HO := Lib.hid hown
        have HG := Lib.hid hg
        clear hb hlaid hlies hown hg
        have l1 := o1.cell
        have l2 := o2.cell
        have l3 := o3.cell
        have f2 := o2.free
        have z1 := o1.lt
        have z2 := o2.lt
        have z3 := o3.lt
        go_wp2_with fail
        have of := ((((o2.set 0 (.int .i64 op)).set 1 (.string t)).set 2 (.int .i64 n)).set 3 (.complex .f64 x y)).set 4 (.slice oa' k cap')
        have bf : Below w.heap.size w (((((wr.setCell ⟨w.heap.size + 1, 0, none⟩ (.int .i64 op)).setCell ⟨w.heap.size + 1, 1, none⟩ (.string t)).setCell ⟨w.heap.size + 1, 2, none⟩ (.int .i64 n)).setCell ⟨w.heap.size + 1, 3, none⟩ (.complex .f64 x y)).setCell ⟨w.heap.size + 1, 4, none⟩ (.slice oa' k cap')) :=
          ((((HB.out.setCell (by show _ ≤ w.heap.size + 1; omega) _).setCell (by show _ ≤ w.heap.size + 1; omega) _).setCell (by show _ ≤ w.heap.size + 1; omega) _).setCell (by show _ ≤ w.heap.size + 1; omega) _).setCell (by show _ ≤ w.heap.size + 1; omega) _
        have hs : (((((wr.setCell ⟨w.heap.size + 1, 0, none⟩ (.int .i64 op)).setCell ⟨w.heap.size + 1, 1, none⟩ (.string t)).setCell ⟨w.heap.size + 1, 2, none⟩ (.int .i64 n)).setCell ⟨w.heap.size + 1, 3, none⟩ (.complex .f64 x y)).setCell ⟨w.heap.size + 1, 4, none⟩ (.slice oa' k cap')).heap.size = wr.heap.size := by simp [World.setCell]
        have hW : ∀ b o, w.heap.size + 3 ≤ b → (((((wr.setCell ⟨w.heap.size + 1, 0, none⟩ (.int .i64 op)).setCell ⟨w.heap.size + 1, 1, none⟩ (.string t)).setCell ⟨w.heap.size + 1, 2, none⟩ (.int .i64 n)).setCell ⟨w.heap.size + 1, 3, none⟩ (.complex .f64 x y)).setCell ⟨w.heap.size + 1, 4, none⟩ (.slice oa' k cap')).cell? ⟨b, o, none⟩ = wr.cell? ⟨b, o, none⟩ := fun b o h => by
          have h1 : b ≠ w.heap.size + 1 := by omega
          refine World.cell?_of_block ?_
          rw [Below.heap_setCell _ _ _ _ h1, Below.heap_setCell _ _ _ _ h1, Below.heap_setCell _ _ _ _ h1, Below.heap_setCell _ _ _ _ h1, Below.heap_setCell _ _ _ _ h1]
        have HE := Lib.hid (conv_end (op := op) (n := n) (x := x) (y := y) HLEN.out ht HO.out HLA.out HLI.out hW hs)
        clear hW hs l1 l2 l3 f2 z1 z2 z3
        revert of bf HE
        generalize ((((wr.setCell ⟨w.heap.size + 1, 0, none⟩ (.int .i64 op)).setCell ⟨w.heap.size + 1, 1, none⟩ (.string t)).setCell ⟨w.heap.size + 1, 2, none⟩ (.int .i64 n)).setCell ⟨w.heap.size + 1, 3, none⟩ (.complex .f64 x y)).setCell ⟨w.heap.size + 1, 4, none⟩ (.slice oa' k cap') = W
        intro of bf HE
        have lf := of.cell
        refine bodyPost_ret (v := .agg #[.int .i64 op, .string t, .int .i64 n, .complex .f64 x y, .slice oa' k cap']) (by simp [results, Try.results16, go_sem, lf]) rfl ⟨_, rfl, HE.out, bf⟩
end Go.Proofs.Ytjepnaefkfkpcaa
/- Whether two filters are the same: the document's answer. -/
namespace Go.Proofs.Ytjepnaefkfkpcaa
set_option linter.unusedVariables false
set_option linter.unusedSimpArgs false
set_option maxRecDepth 100000
open Go.RowKit
def RefSameFn (k : Pr) : Prop := ∀ (q : Pr) (v v' : Value) (w : World), LP w k v → LP w q v' →
    Calls Try.prog 29 #[.agg #[.int .i64 k.op, .string k.text, .int .i64 k.n, .complex .f64 k.x k.y, v], .agg #[.int .i64 q.op, .string q.text, .int .i64 q.n, .complex .f64 q.x q.y, v']] w fun e w' => e = .returned (.bool (Pr.same k q)) ∧ Below w.heap.size w w'
set_option maxRecDepth 100000 in
set_option maxHeartbeats 4000000 in
theorem refSame_any (p : Pr) : RefSameFn p := by
  induction p using Pr.ind with
  | h op t n x y l ih =>
    intro q v v' w hL hL'
    obtain ⟨op', t', n', x', y', m⟩ := q
    obtain ⟨oa, cap, b, o, V, rfl, _, hl, hc, hn, hcell, hrec⟩ := lies_slice hL
    obtain ⟨ob, cap', b', o', V', rfl, _, hl', hc', hn', hcell', hrec'⟩ := lies_slice hL'
    simp only [Pr.kids_node, Pr.text_node, Pr.op_node, Pr.n_node, Pr.x_node, Pr.y_node] at *
    unfold maxLen at hc hc'
    have HC := Lib.hid hcell
    have HR := Lib.hid hrec
    have HN := Lib.hid hn
    have HC' := Lib.hid hcell'
    have HR' := Lib.hid hrec'
    have HN' := Lib.hid hn'
    have HH := Lib.hid ih
    clear hL hcell hrec hn hL' hcell' hrec' hn' ih
    have f2 : Pr.same (.node op t n x y l) (.node op' t' n' x' y' m) = (decide (op = op') && (decide (t.toList = t'.toList) && (decide (n = n') && ((feq x x' && feq y y') && Pr.sames l m)))) := by simp [Pr.same]
    have HLen := Lib.hid (fun h => Pr.sames_not_len (l := l) (m := m) h)
    rw [f2]
    clear f2
    generalize hs : Pr.sames l m = sm
    have HSM := Lib.hid hs
    clear hs
    rw [HSM.out] at HLen
    generalize hla : l.length = la at *
    generalize hlb : m.length = lb at *
    have HLA := Lib.hid hla
    have HLB := Lib.hid hlb
    clear hla hlb
    by_cases e1 : ¬ op = op'
    · go_enter Try.func29, Try.ntmps29
      go_wp2_with fail
      go_ret
      exact ⟨ret_bool (by simp [e1]), ((Below.refl _ _).alloc (Nat.le_refl _) _).alloc (by simp) _⟩
    have e1 := Decidable.not_not.1 e1
    by_cases e2 : ¬ t.toList = t'.toList
    · subst e1
      go_enter Try.func29, Try.ntmps29
      go_wp2_with fail
      go_ret
      exact ⟨ret_bool (by simp [e2]), ((Below.refl _ _).alloc (Nat.le_refl _) _).alloc (by simp) _⟩
    have e2 := Decidable.not_not.1 e2
    by_cases e3 : ¬ n = n'
    · subst e1
      go_enter Try.func29, Try.ntmps29
      go_wp2_with fail
      go_ret
      exact ⟨ret_bool (by simp [e3]), ((Below.refl _ _).alloc (Nat.le_refl _) _).alloc (by simp) _⟩
    have e3 := Decidable.not_not.1 e3
    subst e1
    subst e3
    by_cases g4 : ¬ (FloatKind.f64.format.order x x' = some .eq)
    · have e4 : feq x x' = false := by simp [feq, g4]
      rw [e4]
      go_enter Try.func29, Try.ntmps29
      go_wp2_with fail
      go_ret
      exact ⟨ret_bool (by simp), ((Below.refl _ _).alloc (Nat.le_refl _) _).alloc (by simp) _⟩
    have g4 := Decidable.not_not.1 g4
    have e4 : feq x x' = true := by simp [feq, g4]
    rw [e4]
    by_cases g5 : ¬ (FloatKind.f64.format.order y y' = some .eq)
    · have e5 : feq y y' = false := by simp [feq, g5]
      rw [e5]
      go_enter Try.func29, Try.ntmps29
      go_wp2_with fail
      go_ret
      exact ⟨ret_bool (by simp), ((Below.refl _ _).alloc (Nat.le_refl _) _).alloc (by simp) _⟩
    have g5 := Decidable.not_not.1 g5
    have e5 : feq y y' = true := by simp [feq, g5]
    rw [e5]
    by_cases e6 : ¬ la = lb
    · have hz := HLen.out e6
      subst hz
      go_enter Try.func29, Try.ntmps29
      go_wp2_with fail
      go_ret
      exact ⟨ret_bool (by simp), ((Below.refl _ _).alloc (Nat.le_refl _) _).alloc (by simp) _⟩
    have e6 := Decidable.not_not.1 e6
    subst e6
    rw [decide_eq_true rfl, decide_eq_true e2, decide_eq_true rfl, Bool.true_and, Bool.true_and, Bool.true_and, Bool.true_and, Bool.true_and]
    go_enter Try.func29, Try.ntmps29
    go_wp2_with fail
    go_loopw [5] (fun i wr => EqRel l m la ((w.alloc (.cells #[.int .i64 op, .string t, .int .i64 n, .complex .f64 x y, .slice oa la cap] 39)).alloc (.cells #[.int .i64 op, .string t', .int .i64 n, .complex .f64 x' y', .slice ob la cap'] 39)) i wr) (fun i _ => la - (intOf i).toNat)
    case atStart => exact ⟨0, Nat.zero_le _, rfl, by simp [Hid, Pr.sames], Below.refl _ _⟩
    case round =>
      obtain ⟨k, hk, rfl, HS, hb⟩ := hrel
      have G1 := Lib.hid (((Has.new w #[.int .i64 op, .string t, .int .i64 n, .complex .f64 x y, .slice oa la cap] 39).alloc (.cells #[.int .i64 op, .string t', .int .i64 n, .complex .f64 x' y', .slice ob la cap'] 39)).below hb (by simp; omega))
      have G2 := Lib.hid ((Own.newAt (w.alloc (.cells #[.int .i64 op, .string t, .int .i64 n, .complex .f64 x y, .slice oa la cap] 39)) #[.int .i64 op, .string t', .int .i64 n, .complex .f64 x' y', .slice ob la cap'] 39 (b := w.heap.size + 1) (by simp)).has.below hb (by simp))
      by_cases hlt : k < la
      · obtain ⟨p, hp⟩ : ∃ p, l[k]? = some p := ⟨_, List.getElem?_eq_getElem (by rw [HLA.out]; exact hlt)⟩
        obtain ⟨q, hq⟩ : ∃ q, m[k]? = some q := ⟨_, List.getElem?_eq_getElem (by rw [HLB.out]; exact hlt)⟩
        obtain ⟨rfl, hB⟩ := HN.out (by omega)
        obtain ⟨rfl, hB'⟩ := HN'.out (by omega)
        obtain ⟨oq, cq, hV⟩ := lies_val (HR.out k p hp)
        obtain ⟨oq', cq', hV'⟩ := lies_val (HR'.out k q hq)
        have hbw : Below w.heap.size w wr := below_new (below_new hb)
        obtain ⟨c0, c1, c2, c3, c4⟩ := pc_cells (w := wr) (fun j u hu => (hbw.cell (p := ⟨b, o + k * 5 + j, none⟩) hB).trans (HC.out k p hp j u hu))
        obtain ⟨d0, d1, d2, d3, d4⟩ := pc_cells (w := wr) (fun j u hu => (hbw.cell (p := ⟨b', o' + k * 5 + j, none⟩) hB').trans (HC'.out k q hq j u hu))
        have L0 := (HR.out k p hp).later hbw (Nat.le_refl _)
        have M0 := (HR'.out k q hq).later hbw (Nat.le_refl _)
        rw [hV] at c4 L0
        rw [hV'] at d4 M0
        have CC := fun dd os => HH.out p (List.mem_of_getElem? hp) q (.slice oq p.kids.length cq) (.slice oq' q.kids.length cq') (Sort.grow (redrawn wr dd) os) (L0.later (below_regrown _ _ _) (Nat.le_refl _)) (M0.later (below_regrown _ _ _) (Nat.le_refl _))
        have HB := Lib.hid hb
        have HS0 := HS.out
        have r0 := fun dd os => cell_regrown c0 dd os
        have r1 := fun dd os => cell_regrown c1 dd os
        have r2 := fun dd os => cell_regrown c2 dd os
        have r3 := fun dd os => cell_regrown c3 dd os
        have r4 := fun dd os => cell_regrown c4 dd os
        have s0 := fun dd os => cell_regrown d0 dd os
        have s1 := fun dd os => cell_regrown d1 dd os
        have s2 := fun dd os => cell_regrown d2 dd os
        have s3 := fun dd os => cell_regrown d3 dd os
        have s4 := fun dd os => cell_regrown d4 dd os
        have LA := fun dd os o => G1.out.regrown dd os o
        have LB := fun dd os o => G2.out.regrown dd os o
        have l1 := G1.out.cell
        have l2 := G2.out.cell
        cases hs : Pr.same p q
        · have HF := Lib.hid (Pr.sames_at hp hq hs)
          rw [hs] at CC
          have m3 := fun dd os => Lib.hid (Calls.regrown_of (CC dd os))
          clear hb hV hV' L0 M0 HS0 hs hp hq CC hbw
          go_wp2_with fail
          refine wp_region_quiet_below (by kernel_rfl) (by kernel_rfl) ?_
          repeat (first | go_big_quiet_step ((with_reducible exact (m3 _ _).out)) | quiet_step (with_reducible exact (m3 _ _).out))
          refine wpQuiet_nil ?_
          intro w7 hw'
          have hb' := Lib.hid (regrown_below hw')
          clear hw' m3 r0 r1 r2 r3 r4 s0 s1 s2 s3 s4 LA LB
          go_wp2_with fail
          go_ret
          have HF := HF.out
          rw [HSM.out] at HF
          exact ⟨ret_bool HF.symm, below_new (below_new (HB.out.trans (hb'.out.mono HB.out.size)))⟩
        · have HF := Lib.hid (Pr.sames_take hp hq HS0 hs)
          rw [hs] at CC
          have m3 := fun dd os => Lib.hid (Calls.regrown_of (CC dd os))
          clear hb hV hV' L0 M0 HS0 hs hp hq CC hbw
          go_wp2_with fail
          refine wp_region_quiet_below (by kernel_rfl) (by kernel_rfl) ?_
          repeat (first | go_big_quiet_step ((with_reducible exact (m3 _ _).out)) | quiet_step (with_reducible exact (m3 _ _).out))
          refine wpQuiet_nil ?_
          intro w7 hw'
          have hb' := Lib.hid (regrown_below hw')
          clear hw' m3 r0 r1 r2 r3 r4 s0 s1 s2 s3 s4 LA LB
          go_wp2_with fail
          go_roundw
          case rel => exact ⟨k + 1, by omega, by go_num, HF.out, HB.out.trans (hb'.out.mono HB.out.size)⟩
          case measure => simp [intOf]; omega
      · have HB := Lib.hid hb
        clear hb
        have e : k = la := by omega
        have h7 := HS.out
        rw [Pr.take_all l (by rw [HLA.out]; omega), Pr.take_all m (by rw [HLB.out]; omega), HSM.out] at h7
        subst h7
        clear e
        have l1 := G1.out.cell
        have l2 := G2.out.cell
        have z1 := G1.out.lt
        have z2 := G2.out.lt
        go_wp2_with fail
        go_ret
        exact ⟨rfl, below_new (below_new HB.out)⟩
end Go.Proofs.Ytjepnaefkfkpcaa
/- Is what is known little? The law's helper, walked. -/
namespace Go.Proofs.Ytjepnaefkfkpcaa
set_option linter.unusedVariables false
set_option linter.unusedSimpArgs false
set_option maxRecDepth 100000
open Go.RowKit
def knownB (K : Kn) : Bool := decide (K.l.length ≤ 30) && K.l.all fun f => decide (f.ids.length ≤ 60)
def knownI (K : Kn) : Int := if knownB K = true then 1 else 0
def KnRel (l : List Fr) (len : Nat) (X : Array Value) (w : World) (iv : Value) (wr : World) : Prop :=
  ∃ k : Nat, k ≤ len ∧ iv = .int .i64 k ∧ Hid (∀ j f, j < k → l[j]? = some f → f.ids.length ≤ 60) ∧ wr = (w.alloc (.cells X 31))
set_option maxRecDepth 100000 in
set_option maxHeartbeats 4000000 in
theorem known_calls (K : Kn) (v : Value) (w : World) (hR : FrW w K.l v) :
    Calls Try.prog 15 #[knV K.star v] w fun e w' => e = .returned (.int .i64 (knownI K)) ∧ Below w.heap.size w w' := by
  obtain ⟨A, l⟩ := K
  simp only at hR ⊢
  obtain ⟨U, oa, cap, b0, o, rfl, hr⟩ := hR
  have HR := Lib.hid hr
  have hcap := hr.len
  have hmax := hr.max
  unfold maxLen at hmax
  clear hr
  have HE := Lib.hid (show knownI ⟨A, l⟩ = if (decide (l.length ≤ 30) && l.all fun f => decide (f.ids.length ≤ 60)) = true then 1 else 0 from rfl)
  generalize knownI ⟨A, l⟩ = res at *
  generalize hn : l.length = len at *
  have HN := Lib.hid hn
  clear hn
  have OA := Lib.hid (Has.new w (knA A (.slice oa len cap)) 31)
  have BE := Lib.hid ((Below.refl w.heap.size w).alloc (Nat.le_refl _) (.cells (knA A (.slice oa len cap)) 31))
  by_cases h30 : 30 < len
  · have E := Lib.hid (show res = 0 by rw [HE.out, if_neg (by simp; omega)])
    go_enter Try.func15, Try.ntmps15
    go_wp2_with fail
    go_ret
    exact ⟨ret_int E.out.symm, BE.out⟩
  go_enter Try.func15, Try.ntmps15
  go_wp2_with fail
  go_loopw [3] (fun iv wr => KnRel l len (knA A (.slice oa len cap)) w iv wr) (fun iv _ => len - (intOf iv).toNat)
  case atStart => exact ⟨0, Nat.zero_le _, rfl, fun j f hj => absurd hj (by omega), rfl⟩
  case round =>
    obtain ⟨k, hk, rfl, HA, rfl⟩ := hrel
    have l1 := OA.out.cell
    have z1 := OA.out.lt
    by_cases hlt : k < len
    · obtain ⟨f, hf⟩ : ∃ f, l[k]? = some f := ⟨_, List.getElem?_eq_getElem (by rw [HN.out]; exact hlt)⟩
      obtain ⟨rfl, hb0⟩ := HR.out.at0 (by rw [HN.out]; omega)
      obtain ⟨c0, _⟩ := fc_cells (w := w) (fun j z hz => HR.out.cell k f hf j z hz)
      obtain ⟨ou, cu, hu⟩ := (HR.out.ids k f hf).val
      rw [hu] at c0
      have HF := Lib.hid hf
      clear hf hu
      generalize hnf : f.ids.length = nf at *
      have HNF := Lib.hid hnf
      clear hnf
      by_cases h60 : 60 < nf
      · have E := Lib.hid (show res = 0 by
          rw [HE.out, if_neg]
          rw [Bool.and_eq_true, List.all_eq_true]
          rintro ⟨_, h⟩
          have := h f (List.mem_of_getElem? HF.out)
          rw [decide_eq_true_eq, HNF.out] at this
          omega)
        go_wp2_with fail
        go_ret
        exact ⟨ret_int E.out.symm, BE.out⟩
      · have HA2 := Lib.hid (show ∀ j g, j < k + 1 → l[j]? = some g → g.ids.length ≤ 60 from fun j g hj hg => by
          by_cases e : j = k
          · subst e; rw [HF.out] at hg; cases hg; rw [HNF.out]; omega
          · exact HA.out j g (by omega) hg)
        go_wp2_with fail
        go_roundw
        case rel => exact ⟨k + 1, by omega, by go_num, HA2, by first | rfl | trivial⟩
        case measure => simp [intOf]; omega
    · have e : len = k := by omega
      subst e
      have E := Lib.hid (show res = 1 by
        rw [HE.out, if_pos]
        rw [Bool.and_eq_true, List.all_eq_true]
        refine ⟨by simp; omega, fun f hf => ?_⟩
        obtain ⟨j, hj, e⟩ := List.mem_iff_getElem.1 hf
        rw [decide_eq_true_eq]
        exact HA.out j f (by have := HN.out; omega) (by rw [List.getElem?_eq_getElem hj, e]))
      go_wp2_with fail
      go_ret
      exact ⟨ret_int E.out.symm, BE.out⟩
end Go.Proofs.Ytjepnaefkfkpcaa
