/- Joined: Left, Add, Seen, Conv, Known. -/
import Derived.Test.YthbjgfennclidaaGreatJ10
import Derived.Test.YthbjgfennclidaaGreatJ18
import Derived.Test.YthbjgfennclidaaGreatJ19
import Derived.Deep.DeepAppendRoom
import Derived.Test.YthbjgfennclidaaGreatJ20
import Derived.Test.YthbjgfennclidaaGreatJ01
import Derived.Deep.RegionHeld3
import Derived.Deep.RegionLaw
import Derived.Deep.DrawnRows
/- How many parts are left behind a filter's: the walk; whether a filter is small. -/
namespace Go.Proofs.YthbjgfennclidaaGreat
set_option linter.unusedVariables false
set_option linter.unusedSimpArgs false
set_option maxRecDepth 100000
open Go.RowKit
def leftN (s m : Int) : Int := if s ≤ m then m - s else -1
theorem leftN_neg {s r : Int} (h : 0 ≤ r) (h1 : leftN s r < 0) : r < s := by
  unfold leftN at h1; split at h1 <;> omega
theorem leftN_pos {s r : Int} (h1 : 0 ≤ leftN s r) : s ≤ r := by
  unfold leftN at h1; split at h1 <;> omega
def LeftRel (l : List Pr) (len : Nat) (m : Int) (w0 : World) (most i : Value) (wr : World) : Prop :=
  ∃ (k : Nat) (r : Int), k ≤ len ∧ i = .int .i64 k ∧ most = .int .i64 r ∧ 0 ≤ r ∧ r ≤ 60 ∧ Hid (r = m - (1 + Pr.sizes (l.take k) : Nat)) ∧ Below w0.heap.size w0 wr
set_option maxHeartbeats 1000000 in
theorem left_calls (p : Pr) : ∀ (v : Value) (m : Int) (w : World), LT w p v → -1 ≤ m → m ≤ 60 →
    Calls Tryz.prog 90 #[.agg #[.int .i64 p.op, .string p.text, .int .i64 p.n, .float .f64 p.x, .float .f64 p.y, v], .int .i64 m] w fun e w' => e = .returned (.int .i64 (leftN p.size m)) ∧ Below w.heap.size w w' := by
  induction p using Pr.ind with
  | h op t n x y kids ih =>
    intro v m w hL h1 h2
    obtain ⟨oa, cap, b, o, V, rfl, ht, hl, hc, hn, hcell, hrec⟩ := lies_slice hL
    simp only [Pr.kids_node, Pr.text_node, Pr.op_node, Pr.n_node, Pr.x_node, Pr.y_node, Pr.size] at *
    by_cases h0 : m ≤ 0
    · have e : leftN (1 + Pr.sizes kids : Nat) m = -1 := by unfold leftN; rw [if_neg (by omega)]
      rw [e]
      clear e
      go_enter Tryz.func90, Tryz.ntmps90
      go_wp2_with fail
      go_ret
      exact ⟨rfl, (Below.refl _ _).alloc (Nat.le_refl _) _⟩
    · unfold maxLen at hc
      have E := Lib.hid (rfl : leftN (1 + Pr.sizes kids : Nat) m = leftN (1 + Pr.sizes kids : Nat) m)
      have HL := Lib.hid hL
      have HC := Lib.hid hcell
      have HR := Lib.hid hrec
      have HN := Lib.hid hn
      have HI := Lib.hid ih
      clear hL hcell hrec hn ih
      generalize hlen : kids.length = len at *
      have HLEN := Lib.hid hlen
      clear hlen
      go_enter Tryz.func90, Tryz.ntmps90
      go_wp2_with fail
      go_loopw [1, 5] (fun most i wr => LeftRel kids len m (w.alloc (.cells #[.int .i64 op, .string t, .int .i64 n, .float .f64 x, .float .f64 y, .slice oa len cap] 25)) most i wr) (fun _ i _ => len - (intOf i).toNat)
      case atStart => exact ⟨0, m - 1, Nat.zero_le _, rfl, rfl, by omega, by omega, by simp [Hid, Pr.sizes], Below.refl _ _⟩
      case round =>
        obtain ⟨k, r, hk, rfl, rfl, hr0, hr1, HRr, hb⟩ := hrel
        have g := (Has.new w #[.int .i64 op, .string t, .int .i64 n, .float .f64 x, .float .f64 y, .slice oa len cap] 25).below hb (by simp)
        by_cases hlt : k < len
        · obtain ⟨q, hq⟩ : ∃ q, kids[k]? = some q := ⟨_, List.getElem?_eq_getElem (by rw [HLEN.out]; exact hlt)⟩
          obtain ⟨rfl, hS⟩ := HN.out (by omega)
          have hbw : Below w.heap.size w wr := ((Below.refl _ _).alloc (Nat.le_refl _) _).trans (hb.mono (by simp))
          obtain ⟨c0, c1, c2, c3, c4, c5⟩ := tc_cells (w := wr) (fun j u hu => (hbw.cell (p := ⟨b, o + k * 6 + j, none⟩) hS).trans (HC.out k q hq j u hu))
          have CC := HI.out q (List.mem_of_getElem? hq) (V k) r wr ((HR.out k q hq).later hbw (Nat.le_refl _)) (by omega) (by omega)
          have HB := Lib.hid hb
          have HQ := Lib.hid hq
          clear hb hbw hq
          have l := g.cell
          have z := g.lt
          clear g
          go_wp2_with (go_at_call 90; refine CC.mono ?_; rintro e w' ⟨rfl, hb'⟩)
          · have hneg : leftN q.size r < 0 := by assumption
            have hbig : r < (q.size : Int) := leftN_neg hr0 hneg
            have h3 := Pr.sizes_take HQ.out
            have h4 := Pr.sizes_take_le kids (k + 1)
            have h5 := HRr.out
            go_ret
            exact ⟨ret_int (by unfold leftN; rw [if_neg (by omega)]), below_new (HB.out.trans (hb'.mono HB.out.size))⟩
          · have hneg : 0 ≤ leftN q.size r := by assumption
            have hbig : (q.size : Int) ≤ r := leftN_pos hneg
            have h3 := Pr.sizes_take HQ.out
            have h5 := HRr.out
            have h6 := Pr.size_pos q
            have h7 : leftN q.size r = r - q.size := if_pos hbig
            go_roundw
            case rel => exact ⟨k + 1, r - q.size, by omega, by go_num, by rw [h7], by omega, by omega, by unfold Hid; rw [h3]; omega, HB.out.trans (hb'.mono HB.out.size)⟩
            case measure => simp [intOf]; omega
        · have HB := Lib.hid hb
          clear hb
          have l := g.cell
          have z := g.lt
          clear g
          have e : k = len := by omega
          have h5 := HRr.out
          rw [Pr.take_all kids (by rw [HLEN.out]; omega)] at h5
          have H5 := Lib.hid h5
          clear h5 e
          go_wp2_with fail
          go_ret
          have h5 := H5.out
          exact ⟨ret_int (by unfold leftN; rw [if_pos (by omega)]; exact h5), below_new HB.out⟩
set_option maxHeartbeats 1000000 in
theorem small_calls (p : Pr) (v : Value) (w : World) (hL : LT w p v) :
    Calls Tryz.prog 38 #[.agg #[.int .i64 p.op, .string p.text, .int .i64 p.n, .float .f64 p.x, .float .f64 p.y, v]] w fun e w' => e = .returned (.int .i64 (if p.size ≤ 60 then 1 else 0)) ∧ Below w.heap.size w w' := by
  have H := fun w' h => Lib.hid (left_calls p v 60 w' h (by omega) (by omega))
  have L1 := fun o => Lib.hid (hL.atAlloc o)
  clear hL
  by_cases h : p.size ≤ 60
  · have h1 : leftN p.size 60 = 60 - p.size := if_pos (by omega)
    have h2 : ¬ (leftN p.size 60 < 0) := by omega
    rw [if_pos h]
    clear h1
    go_enter Tryz.func38, Tryz.ntmps38
    go_wp2_with (go_at_call 90; refine (H _ (L1 _).out).out.mono ?_; rintro e w' ⟨rfl, hb⟩)
    go_ret
    exact ⟨rfl, below_new hb⟩
  · have h1 : leftN p.size 60 = -1 := if_neg (by omega)
    have h2 : leftN p.size 60 < 0 := by omega
    rw [if_neg h]
    clear h1
    go_enter Tryz.func38, Tryz.ntmps38
    go_wp2_with (go_at_call 90; refine (H _ (L1 _).out).out.mono ?_; rintro e w' ⟨rfl, hb⟩)
    go_ret
    exact ⟨rfl, below_new hb⟩
end Go.Proofs.YthbjgfennclidaaGreat
/- Those of a row that don't stand in another one, put behind it: the code's walks (add), and an append that says what stays. -/
namespace Go.Proofs.YthbjgfennclidaaGreat
set_option linter.unusedVariables false
set_option linter.unusedSimpArgs false
set_option maxRecDepth 100000
open Go.RowKit
/-! ### An append, and what stays where it was -/
theorem run_append_two {P : Program} (w : World) (t ty : TypeId) (base : Nat) (e : TypeId) (i : TypeInfo) (z : Value) (size bytes : Nat) (ht : P.underlying t = some (.slice e)) (hi : P.info? e = some i) (hz : i.zero = some z)
    (hsize : i.size = size) (hby : i.bytes = bytes) (hzs : z.cells.size = size) (hsz : 0 < size)
    (v : Value) (n : Nat) (xs : List Value) (hown : w.ownsRow base e size v n xs)
    (ad : Addr) (m c : Nat) (news : List Value) (hl : news.length = m * size) (hnews : ∀ j u, news[j]? = some u → w.cell? (ad.add j) = some u) (h1 : ∀ u ∈ news, u.oneCell' = true)
    (hm : 0 < m) (h63 : n + m ≤ maxLen) (hbytes : (n + m) * bytes ≤ 140737488355328) (hbase : base ≤ w.heap.size) (H : Nat) (hH : w.heap.size = H) :
    ∃ g cap w', (Builtin.append_ #[t, t] ty #[v, .slice (some ad) m c]).run P w = .ok (.slice (some ⟨g, 0, none⟩) (n + m) cap) w' ∧
      w'.ownsRow base e size (.slice (some ⟨g, 0, none⟩) (n + m) cap) (n + m) (xs ++ news) ∧ w.grownBy w' v.ownBlock ∧ (v.ownBlock = some g ∨ (g = H ∧ w.grownBy w' none)) ∧ g < w'.heap.size := by
  obtain ⟨g, cap, w', hr, h2, h3, h4, h5⟩ := run_append_lies w t ty base e i z size bytes ht hi hz hsize hby hzs hsz v n xs hown ad m c news hl hnews h1 hm h63 hbytes hbase H hH
  refine ⟨g, cap, w', hr, h2, h3, ?_, h5⟩
  rcases h4 with h4 | h4
  · exact .inl h4
  · rcases hown.2 with ⟨rfl, _⟩ | ⟨g0, cap0, cur, rfl, hbg, hg, hnc, hcm, hcs, htake⟩
    · exact .inr ⟨h4, h3⟩
    · by_cases hroom : n + m ≤ cap0
      · obtain ⟨w2, hr2, _⟩ := run_append_own_spare (P := P) w base t ty e i size ht hi hsize g0 n cap0 xs hown ad m c news hl hnews h1 hroom
        rw [hr] at hr2
        cases hr2
        exact .inl rfl
      · have h63' : n + m ≤ 9223372036854775807 := by simp only [maxLen] at h63; omega
        have hr2 := run_append_grow (P := P) w t ty e i z ht hi hz ⟨g0, 0, none⟩ n cap0 xs (by rw [hsize]; exact hown.1) (hown.cells (g := g0) rfl) ad m c news (by rw [hsize]; exact hl) hnews (by omega) (by omega) (growslice_fits (by omega) (by rw [hby]; exact hbytes))
        rw [hr] at hr2
        cases hr2
        exact .inr ⟨hH, ⟨rfl, rfl, rfl, by simp, fun k hk _ => Below.heap_alloc w.drew _ _ hk⟩⟩
/-! ### One that stands in a row -/
end Go.Proofs.YthbjgfennclidaaGreat
/- Which filter is seen in which: the code's seen, walked whole. -/
namespace Go.Proofs.YthbjgfennclidaaGreat
set_option linter.unusedVariables false
set_option linter.unusedSimpArgs false
set_option maxRecDepth 100000
open Go.RowKit
set_option maxRecDepth 100000 in
set_option maxHeartbeats 4000000 in
theorem seen_step (p q : Pr) (H1 : ∀ k ∈ p.kids, CSeen k q) (H2 : ∀ k ∈ q.kids, CSeen p k) (H3 : ∀ a ∈ p.kids, ∀ b ∈ q.kids, CSeen b a) (hpa : p.all = true) (hqa : q.all = true) : CSeen p q := by
  intro v v' w hL hM
  obtain ⟨oa, cap, rfl⟩ := lies_val hL
  obtain ⟨oa', cap', rfl⟩ := lies_val hM
  generalize p.kids.length = len at *
  generalize q.kids.length = len' at *
  have hL2 := (hL.atAlloc (.cells (pa p (.slice oa len cap)) 44)).atAlloc (.cells (pa q (.slice oa' len' cap')) 44)
  have hM2 := (hM.atAlloc (.cells (pa p (.slice oa len cap)) 44)).atAlloc (.cells (pa q (.slice oa' len' cap')) 44)
  have G1 := Lib.hid ((Has.new w (pa p (.slice oa len cap)) 44).alloc (.cells (pa q (.slice oa' len' cap')) 44))
  have G2 := Lib.hid ((Own.newAt (w.alloc (.cells (pa p (.slice oa len cap)) 44)) (pa q (.slice oa' len' cap')) 44 (b := w.heap.size + 1) (by simp)).has)
  have B0 := Lib.hid (Below.refl ((w.alloc (.cells (pa p (.slice oa len cap)) 44)).alloc (.cells (pa q (.slice oa' len' cap')) 44)).heap.size ((w.alloc (.cells (pa p (.slice oa len cap)) 44)).alloc (.cells (pa q (.slice oa' len' cap')) 44)))
  generalize hw2 : ((w.alloc (.cells (pa p (.slice oa len cap)) 44)).alloc (.cells (pa q (.slice oa' len' cap')) 44)) = w2 at *
  have CS := fun (w' : World) (hb : Below w2.heap.size w2 w') => Lib.hid (same_any p q _ _ w' (hL2.later hb (Nat.le_refl _)) (hM2.later hb (Nat.le_refl _)))
  have CK := fun (w' : World) (hb : Below w2.heap.size w2 w') => Lib.hid (byKids_calls p q H1 H2 _ _ w' (hL2.later hb (Nat.le_refl _)) (hM2.later hb (Nat.le_refl _)))
  have CO := fun (w' : World) (hb : Below w2.heap.size w2 w') => Lib.hid (byOp_calls p q H3 _ _ w' (hL2.later hb (Nat.le_refl _)) (hM2.later hb (Nat.le_refl _)) hpa hqa)
  subst hw2
  have HE := Lib.hid (Pr.seenB_eq p q)
  clear hL hM hL2 hM2 H1 H2 H3 hpa hqa
  generalize Pr.seenB p q = res at *
  generalize Pr.same p q = x1 at *
  generalize Pr.listsB p q = x2 at *
  generalize Pr.restB p q = x3 at *
  obtain ⟨op, t, n, x, y, kids⟩ := p
  obtain ⟨op', t', n', x', y', kids'⟩ := q
  simp only [pa, pv, Pr.text_node, Pr.op_node, Pr.n_node, Pr.x_node, Pr.y_node] at *
  have hop : op' = 1 ∨ ((op' == 1) = false ∧ op = 2) ∨ ((op' == 1) = false ∧ (op == 2) = false) := by simp; omega
  rcases hop with rfl | ⟨n1, rfl⟩ | ⟨n1, n2⟩
  · clear CS CK CO
    go_enter Tryz.func173, Tryz.ntmps173
    go_wp2_with fail
    go_ret
    exact ⟨ret_bool (by rw [HE.out]; simp), below_new (below_new B0.out)⟩
  · clear CS CK CO
    go_enter Tryz.func173, Tryz.ntmps173
    go_wp2_with fail
    go_ret
    exact ⟨ret_bool (by rw [HE.out]; simp), below_new (below_new B0.out)⟩
  · go_enter Tryz.func173, Tryz.ntmps173
    go_wp2_with fail
    refine (CS _ B0.out).out.mono ?_; rintro e w3 ⟨rfl, hb0⟩
    have B1 := Lib.hid (B0.out.trans (hb0.mono B0.out.size))
    have G1 := Lib.hid (G1.out.below hb0 G1.out.lt)
    have G2 := Lib.hid (G2.out.below hb0 G2.out.lt)
    clear hb0
    have l0 := G1.out.cell
    have m0 := G2.out.cell
    have z0 := G1.out.lt
    have u0 := G2.out.lt
    cases x1
    · go_wp2_with fail
      refine (CK _ B1.out).out.mono ?_; rintro e w4 ⟨rfl, hb1⟩
      have B2 := Lib.hid (B1.out.trans (hb1.mono B1.out.size))
      have G1 := Lib.hid (G1.out.below hb1 G1.out.lt)
      have G2 := Lib.hid (G2.out.below hb1 G2.out.lt)
      clear hb1
      have l1 := G1.out.cell
      have m1 := G2.out.cell
      have z1 := G1.out.lt
      have u1 := G2.out.lt
      cases x2
      · go_wp2_with fail
        refine (CO _ B2.out).out.mono ?_; rintro e w5 ⟨rfl, hb2⟩
        have B3 := Lib.hid (B2.out.trans (hb2.mono B2.out.size))
        have G1 := Lib.hid (G1.out.below hb2 G1.out.lt)
        have G2 := Lib.hid (G2.out.below hb2 G2.out.lt)
        clear hb2
        have l2 := G1.out.cell
        have m2 := G2.out.cell
        have z2 := G1.out.lt
        have u2 := G2.out.lt
        cases x3
        · go_wp2_with fail
          go_ret
          exact ⟨ret_bool (by rw [HE.out]; (try simp only [beq_eq_false_iff_ne, ne_eq] at *); (try simp [*])), below_new (below_new B3.out)⟩
        · go_wp2_with fail
          go_ret
          exact ⟨ret_bool (by rw [HE.out]; (try simp only [beq_eq_false_iff_ne, ne_eq] at *); (try simp [*])), below_new (below_new B3.out)⟩
      · go_wp2_with fail
        go_ret
        exact ⟨ret_bool (by rw [HE.out]; (try simp only [beq_eq_false_iff_ne, ne_eq] at *); (try simp [*])), below_new (below_new B2.out)⟩
    · go_wp2_with fail
      go_ret
      exact ⟨ret_bool (by rw [HE.out]; (try simp only [beq_eq_false_iff_ne, ne_eq] at *); (try simp [*])), below_new (below_new B1.out)⟩
theorem cseen_all : ∀ (n : Nat) (p q : Pr), p.size + q.size ≤ n → p.all = true → q.all = true → CSeen p q := by
  intro n
  induction n with
  | zero => intro p q h; have := Pr.size_pos p; omega
  | succ n ih =>
    intro p q h hp hq
    have hpk := fun k (hk : k ∈ p.kids) => And.intro (Pr.alls_iff.1 (Pr.all_kids hp) k hk) (Pr.kid_size hk)
    have hqk := fun k (hk : k ∈ q.kids) => And.intro (Pr.alls_iff.1 (Pr.all_kids hq) k hk) (Pr.kid_size hk)
    exact seen_step p q (fun k hk => ih k q (by have := (hpk k hk).2; omega) (hpk k hk).1 hq) (fun k hk => ih p k (by have := (hqk k hk).2; omega) hp (hqk k hk).1)
      (fun a ha b hb => ih b a (by have := (hpk a ha).2; have := (hqk b hb).2; omega) (hqk b hb).1 (hpk a ha).1) hp hq
theorem cseen_calls (p q : Pr) (hp : p.all = true) (hq : q.all = true) : CSeen p q := cseen_all _ p q (Nat.le_refl _) hp hq
end Go.Proofs.YthbjgfennclidaaGreat
/- A filter made of a Tree: the walk. -/
namespace Go.Proofs.YthbjgfennclidaaGreat
set_option linter.unusedVariables false
set_option linter.unusedSimpArgs false
set_option maxRecDepth 100000
open Go.RowKit
theorem info_pred : (Tryz.prog.info? 44).map (fun i => (i.zero, i.size, i.bytes)) = some (some (.agg #[.int .i64 0, .string ⟨#[]⟩, .int .i64 0, .complex .f64 0 0, .slice none 0 0]), 5, 72) := by kernel_rfl
def ConvOut (p : Pr) (w : World) (e : Ending) (w' : World) : Prop :=
  ∃ v', e = .returned (.agg #[.int .i64 p.op, .string p.text, .int .i64 p.n, .complex .f64 p.x p.y, v']) ∧ Lies 5 pc (fun b => w.heap.size ≤ b ∧ b < w'.heap.size) w' p v' ∧ Below w.heap.size w w'
def Laid (l : List Pr) (k : Nat) (xs : List Value) (V : Nat → Value) : Prop := ∀ i p, i < k → l[i]? = some p → ∀ j u, (pc p (V i))[j]? = some u → xs[i * 5 + j]? = some u
def ConvRel (op : Int) (t : ByteArray) (n : Int) (x y : Nat) (kids : List Pr) (len : Nat) (v : Value) (w : World) (i : Value) (wr : World) : Prop :=
  ∃ (k : Nat) (sl : Value) (xs : List Value) (V : Nat → Value), k ≤ len ∧ i = .int .i64 k ∧
    Own wr w.heap.size #[.int .i64 op, .string t, .int .i64 n, .float .f64 x, .float .f64 y, v] 25 ∧
    Own wr (w.heap.size + 1) #[.int .i64 0, .string ⟨#[]⟩, .int .i64 0, .complex .f64 0 0, .slice none 0 0] 44 ∧
    Own wr (w.heap.size + 1 + 1) #[.int .i64 op, .string t, .int .i64 n, .complex .f64 x y, sl] 44 ∧
    wr.ownsRow (w.heap.size + 3) 44 5 sl k xs ∧ Laid kids k xs V ∧
    (∀ i p, i < k → kids[i]? = some p → Lies 5 pc (fun b => w.heap.size + 3 ≤ b ∧ b < wr.heap.size ∧ some b ≠ sl.ownBlock) wr p (V i)) ∧ Below w.heap.size w wr
theorem laid_step {l : List Pr} {k : Nat} {xs : List Value} {V : Nat → Value} {q : Pr} {v2 : Value} (hx : xs.length = k * 5) (h : Laid l k xs V) (hq : l[k]? = some q) : Laid l (k + 1) (xs ++ pc q v2) (fun i => if i = k then v2 else V i) := by
  intro i p hi hp j u hu
  by_cases e : i = k
  · subst e
    rw [hq] at hp; cases hp
    simp only [if_true] at hu
    rw [List.getElem?_append_right (by omega), hx, show i * 5 + j - i * 5 = j by omega]
    exact hu
  · simp only [if_neg e] at hu
    have h1 := h i p (by omega) hp j u hu
    rw [List.getElem?_append_left (List.getElem?_eq_some_iff.1 h1).1]
    exact h1
theorem conv_step {op : Int} {t : ByteArray} {n : Int} {x y : Nat} {kids : List Pr} {len : Nat} {v : Value} {w wr w2 w3 : World} {k g cap' : Nat} {sl v2 : Value} {xs : List Value} {V : Nat → Value} {q : Pr} (hk : k < len) (hq : kids[k]? = some q)
    (o1 : Own wr w.heap.size #[.int .i64 op, .string t, .int .i64 n, .float .f64 x, .float .f64 y, v] 25)
    (o2 : Own wr (w.heap.size + 1) #[.int .i64 0, .string ⟨#[]⟩, .int .i64 0, .complex .f64 0 0, .slice none 0 0] 44)
    (o3 : Own wr (w.heap.size + 1 + 1) #[.int .i64 op, .string t, .int .i64 n, .complex .f64 x y, sl] 44)
    (hown : wr.ownsRow (w.heap.size + 3) 44 5 sl k xs) (hlaid : Laid kids k xs V)
    (hlies : ∀ i p, i < k → kids[i]? = some p → Lies 5 pc (fun b => w.heap.size + 3 ≤ b ∧ b < wr.heap.size ∧ some b ≠ sl.ownBlock) wr p (V i)) (hb : Below w.heap.size w wr)
    (hl2 : Lies 5 pc (fun b => wr.drew.heap.size ≤ b ∧ b < w2.heap.size) w2 q v2) (hb2 : Below wr.drew.heap.size wr.drew w2)
    (hown3 : w3.ownsRow (w.heap.size + 3) 44 5 (.slice (some ⟨g, 0, none⟩) (k + 1) cap') (k + 1) (xs ++ pc q v2))
    (hgrow : (w2.alloc (.cells #[.int .i64 q.op, .string q.text, .int .i64 q.n, .complex .f64 q.x q.y, v2] 44)).grownBy w3 sl.ownBlock) (hat : sl.ownBlock = some g ∨ g = w2.heap.size + 1) :
    ConvRel op t n x y kids len v w (.int .i64 (k + 1 : Nat)) (w3.setCell ⟨w.heap.size + 1 + 1, 4, none⟩ (.slice (some ⟨g, 0, none⟩) (k + 1) cap')) := by
  have n1 := own_ne hown (b := w.heap.size) (by omega)
  have n2 := own_ne hown (b := w.heap.size + 1) (by omega)
  have n3 := own_ne hown (b := w.heap.size + 1 + 1) (by omega)
  have s2 : wr.heap.size ≤ w2.heap.size := hb2.size
  have s3 : w2.heap.size + 1 ≤ w3.heap.size := by have := hgrow.size; simpa using this
  have hsz : ∀ a u, (w3.setCell a u).heap.size = w3.heap.size := fun a u => by simp [World.setCell]
  have zw := hb.size
  have b1 : Below w.heap.size w (w2.alloc (.cells #[.int .i64 q.op, .string q.text, .int .i64 q.n, .complex .f64 q.x q.y, v2] 44)) := (hb.drew.trans (hb2.mono zw)).alloc (by omega) _
  have b2 : Below w.heap.size w w3 := b1.grown hgrow (by simp; omega) (fun j hj => by have := hown.lt j hj; omega)
  have hb4 : Below w.heap.size w (w3.setCell ⟨w.heap.size + 1 + 1, 4, none⟩ (.slice (some ⟨g, 0, none⟩) (k + 1) cap')) := b2.setCell (by show _ ≤ w.heap.size + 1 + 1; omega) _
  have hlt3 : ∀ j, sl.ownBlock = some j → j < wr.heap.size := fun j hj => (hown.lt j hj).2
  have hg : ∀ b, b < w2.heap.size → some b ≠ sl.ownBlock → b ≠ g := by
    intro b h1 h2 e
    rcases hat with h | h
    · exact h2 (by rw [e, h])
    · omega
  refine ⟨k + 1, _, xs ++ pc q v2, fun i => if i = k then v2 else V i, hk, rfl, (((o1.drew.later hb2).alloc _).grown hgrow n1).setFar ⟨w.heap.size + 1 + 1, 4, none⟩ _ (by show _ ≠ w.heap.size + 1 + 1; omega), (((o2.drew.later hb2).alloc _).grown hgrow n2).setFar ⟨w.heap.size + 1 + 1, 4, none⟩ _ (by show _ ≠ w.heap.size + 1 + 1; omega),
    ?_, ownsRow_setCell_below hown3 (by simp) _, laid_step hown.1 hlaid hq, ?_, hb4⟩
  · have := (((o3.drew.later hb2).alloc _).grown hgrow n3).set 4 (.slice (some ⟨g, 0, none⟩) (k + 1) cap')
    simpa using this
  · intro i p hi hp
    by_cases e : i = k
    · subst e
      rw [hq] at hp; cases hp
      simp only [if_true]
      refine hl2.mono (fun b o h => ?_) (fun b h => ?_)
      · have h1 : some b ≠ sl.ownBlock := fun e => by have := hlt3 b e.symm; have : wr.heap.size ≤ b := h.1; omega
        rw [World.cell?_of_block (Below.heap_setCell _ _ _ _ (by have : wr.heap.size ≤ b := h.1; have := hb.size; have := o3.lt; simp; omega))]
        rw [hgrow.cell_far _ (by have := h.2; simp; omega) h1]
        exact World.cell?_of_block (Below.heap_alloc _ _ _ h.2)
      · have h1 : some b ≠ sl.ownBlock := fun e => by have := hlt3 b e.symm; have : wr.heap.size ≤ b := h.1; omega
        have h0 : wr.heap.size ≤ b := h.1
        refine ⟨by have := o3.lt; omega, by rw [hsz]; have := h.2; omega, ?_⟩
        simp only [Value.ownBlock, ne_eq, Option.some.injEq]
        exact hg b h.2 h1
    · simp only [if_neg e]
      refine (hlies i p (by omega) hp).mono (fun b o h => ?_) (fun b h => ?_)
      · rw [World.cell?_of_block (Below.heap_setCell _ _ _ _ (by simp; omega))]
        rw [hgrow.cell_far _ (by simp; omega) h.2.2]
        rw [World.cell?_of_block (Below.heap_alloc _ _ _ (by simp; omega))]
        exact hb2.cell (p := ⟨b, o, none⟩) h.2.1
      · refine ⟨h.1, by rw [hsz]; omega, ?_⟩
        simp only [Value.ownBlock, ne_eq, Option.some.injEq]
        exact hg b (by omega) h.2.2
theorem conv_end {op : Int} {t : ByteArray} {n : Int} {x y : Nat} {kids : List Pr} {B : Nat} {wr W : World} {cap' : Nat} {oa : Option Addr} {xs : List Value} {V : Nat → Value} {k : Nat} (hk : kids.length = k) (ht : t.size ≤ maxLen)
    (hown : wr.ownsRow (B + 3) 44 5 (.slice oa k cap') k xs) (hlaid : Laid kids k xs V)
    (hlies : ∀ i p, i < k → kids[i]? = some p → Lies 5 pc (fun b => B + 3 ≤ b ∧ b < wr.heap.size ∧ some b ≠ (Value.slice oa k cap').ownBlock) wr p (V i))
    (hW : ∀ b o, B + 3 ≤ b → W.cell? ⟨b, o, none⟩ = wr.cell? ⟨b, o, none⟩) (hs : W.heap.size = wr.heap.size) :
    Lies 5 pc (fun b => B ≤ b ∧ b < W.heap.size) W (.node op t n x y kids) (.slice oa k cap') := by
  subst hk
  obtain ⟨oa', cap2, g, e, h1, h2, hg⟩ := row_slice hown
  cases e
  refine .mk op t n x y kids oa cap' g 0 V ht h1 h2 (fun h => ⟨(hg h).1, by have := (hg h).2.1; omega, by rw [hs]; exact (hg h).2.2⟩) (fun i p hp j u hu => ?_) fun i p hp => ?_
  · have hi := some_pos hp
    obtain ⟨rfl, hb, _⟩ := hg (by omega)
    have h3 := hlaid i p hi hp j u hu
    rw [hW _ _ hb, Nat.zero_add, hown.cellAt _ (by have := (List.getElem?_eq_some_iff.1 h3).1; rw [hown.1] at this; exact this)]
    exact h3
  · exact (hlies i p (some_pos hp) hp).mono (fun b o h => hW b o h.1) fun b h => ⟨by omega, by rw [hs]; exact h.2.1⟩
theorem conv_far {wr w2 w3 : World} {base : Nat} {e : TypeId} {size : Nat} {v : Value} {n : Nat} {xs : List Value} {ob : Obj} (hown : wr.ownsRow base e size v n xs) (hb2 : Below wr.drew.heap.size wr.drew w2) (hgrow : (w2.alloc ob).grownBy w3 v.ownBlock) {c : Nat} (hc : c < base) (hl : c < wr.heap.size) :
    ∀ o, w3.cell? ⟨c, o, none⟩ = wr.cell? ⟨c, o, none⟩ := fun o => by
  have h2 : wr.heap.size ≤ w2.heap.size := hb2.size
  rw [hgrow.cell_far _ (by simp; omega) (own_ne hown hc), World.cell?_of_block (Below.heap_alloc _ _ _ (by show c < _; omega))]
  exact hb2.cell (p := ⟨c, o, none⟩) hl
theorem near_far {wr w2 : World} (hb2 : Below wr.drew.heap.size wr.drew w2) {c : Nat} (hl : c < wr.heap.size) : ∀ o, w2.cell? ⟨c, o, none⟩ = wr.cell? ⟨c, o, none⟩ := fun o => hb2.cell (p := ⟨c, o, none⟩) hl
theorem near_far2 {wr w2 : World} (hb2 : Below wr.drew.heap.size wr.drew w2) {c : Nat} (hl : c < wr.heap.size) : ∀ o ob, (w2.alloc ob).cell? ⟨c, o, none⟩ = wr.cell? ⟨c, o, none⟩ := fun o ob => by
  have h2 : wr.heap.size ≤ w2.heap.size := hb2.size
  rw [World.cell?_of_block (Below.heap_alloc _ _ _ (by show c < _; omega))]
  exact near_far hb2 hl o
attribute [local go_sem ↓] Go.wp_at_zero Go.wp_at_succ
set_option maxHeartbeats 4000000 in
theorem conv_calls (p : Pr) : ∀ (v : Value) (w : World), LT w p v → p.size ≤ 60 →
    Calls Tryz.prog 39 #[.agg #[.int .i64 p.op, .string p.text, .int .i64 p.n, .float .f64 p.x, .float .f64 p.y, v]] w (ConvOut p w) := by
  induction p using Pr.ind with
  | h op t n x y kids ih =>
    intro v w hL hsz
    obtain ⟨oa, cap, b, o, V, rfl, ht, hl, hc, hn, hcell, hrec⟩ := lies_slice hL
    simp only [Pr.kids_node, Pr.text_node, Pr.op_node, Pr.n_node, Pr.x_node, Pr.y_node, Pr.size] at *
    unfold maxLen at hc
    have h60 := Pr.len_le_sizes kids
    have HL := Lib.hid hL
    have HC := Lib.hid hcell
    have HR := Lib.hid hrec
    have HN := Lib.hid hn
    have HI := Lib.hid ih
    clear hL hcell hrec hn ih
    generalize hlen : kids.length = len at *
    have HLEN := Lib.hid hlen
    clear hlen
    go_enter Tryz.func39, Tryz.ntmps39
    go_wp2_with fail
    go_loopw [4] (fun i wr => ConvRel op t n x y kids len (.slice oa len cap) w i wr) (fun i _ => len - (intOf i).toNat)
    case atStart =>
      exact ⟨0, .slice none 0 0, [], fun _ => .nilFunc, Nat.zero_le _, rfl, (((Own.new w _ _).alloc _).alloc _), ((Own.newAt _ _ _ (by simp)).alloc _), Own.newAt _ _ _ (by simp), World.ownsRow_nil _ _ _ _, fun i p h => absurd h (Nat.not_lt_zero _), fun i p h => absurd h (Nat.not_lt_zero _), (((Below.refl _ _).alloc (Nat.le_refl _) _).alloc (by simp) _).alloc (by simp; omega) _⟩
    case round =>
      obtain ⟨k, sl, xs, V', hk, rfl, o1, o2, o3, hown, hlaid, hlies, hb⟩ := hrel
      by_cases hlt : k < len
      · obtain ⟨q, hq⟩ : ∃ q, kids[k]? = some q := ⟨_, List.getElem?_eq_getElem (by rw [HLEN.out]; exact hlt)⟩
        obtain ⟨rfl, hS⟩ := HN.out (by omega)
        obtain ⟨c0, c1, c2, c3, c4, c5⟩ := tc_cells (w := wr) (fun j u hu => (hb.cell (p := ⟨b, o + k * 6 + j, none⟩) hS).trans (HC.out k q hq j u hu))
        have hqs := Pr.size_mem (List.mem_of_getElem? hq)
        have CC := HI.out q (List.mem_of_getElem? hq) (V k) wr.drew ((HR.out k q hq).later hb.drew (Nat.le_refl _)) (by omega)
        have HB := Lib.hid hb
        have HQ := Lib.hid hq
        have HLA := Lib.hid hlaid
        have HLI := Lib.hid hlies
        clear hb hq hlaid hlies
        obtain ⟨i0, hi, hz0, hz1, hz2⟩ := info_parts info_pred
        have l1 := o1.cell 5
        have l3 := o3.cell 4
        have z1 := o1.lt
        have z3 := o3.lt
        have zb : b < wr.heap.size := Nat.lt_of_lt_of_le hS HB.out.size
        simp at l1 l3
        go_wp2_with fail
        go_region_law
          (first
            | (go_simp; go_at_call 39; refine CC.mono ?_; rintro e w2 ⟨v2, rfl, hl2, hb2⟩; have gb := near_far hb2 zb; have g1 := near_far hb2 z1; have g3 := near_far hb2 z3; have a3 := near_far2 hb2 z3)
            | ((refine step_append_lies _ (by rfl) _ _ _ (by rfl) (w.heap.size + 3) 44 i0 _ 5 72 Tryz.underlying42 hi hz0 hz1 hz2 rfl (by omega) sl k xs (by rfl) ((ownsRow_below hown.drew hb2).alloc _) ⟨w2.heap.size, 0, none⟩ 1 1 (pc q v2) (by rfl) (by rfl) (World.news_of_block (cs := #[.int .i64 q.op, .string q.text, .int .i64 q.n, .complex .f64 q.x q.y, v2]) (t := 44) (fr := (0, 0)) (heap_alloc_new w2 _)) (pc_one (lies_one hl2)) (by omega) (by unfold maxLen; omega) (by omega) (by have : wr.heap.size ≤ w2.heap.size := hb2.size; simp; omega) (w2.heap.size + 1) (by simp) ?_; intro g cap' w3 hown3 hgrow hat hlt3; have fz := (((o3.drew.later hb2).alloc _).grown hgrow (own_ne hown (by omega))).free 4; have fb := conv_far hown hb2 hgrow (c := b) (by omega) zb; have f1 := conv_far hown hb2 hgrow (c := w.heap.size) (by omega) z1; have f3 := conv_far hown hb2 hgrow (c := w.heap.size + 1 + 1) (by omega) z3)))
        all_goals
          have R := conv_step (v := .slice (some ⟨b, o, none⟩) len cap) hlt HQ.out o1 o2 o3 hown HLA.out HLI.out HB.out hl2 hb2 hown3 hgrow hat
          go_wp2_with fail
          go_roundw
          case rel => exact R
          case measure => simp [intOf]; omega
      · have e : k = len := by omega
        subst e
        obtain ⟨oa', cap', g, rfl, hc1, hc2, hg⟩ := row_slice hown
        have HB := Lib.hid hb
        have HLA := Lib.hid hlaid
        have HLI := Lib.hid hlies
        have HO := Lib.hid hown
        have HG := Lib.hid hg
        clear hb hlaid hlies hown hg
        have l1 := o1.cell
        have l2 := o2.cell
        have l3 := o3.cell
        have f2 := o2.free
        have z1 := o1.lt
        have z2 := o2.lt
        have z3 := o3.lt
        go_wp2_with fail
        have of := ((((o2.set 0 (.int .i64 op)).set 1 (.string t)).set 2 (.int .i64 n)).set 3 (.complex .f64 x y)).set 4 (.slice oa' k cap')
        have bf : Below w.heap.size w (((((wr.setCell ⟨w.heap.size + 1, 0, none⟩ (.int .i64 op)).setCell ⟨w.heap.size + 1, 1, none⟩ (.string t)).setCell ⟨w.heap.size + 1, 2, none⟩ (.int .i64 n)).setCell ⟨w.heap.size + 1, 3, none⟩ (.complex .f64 x y)).setCell ⟨w.heap.size + 1, 4, none⟩ (.slice oa' k cap')) :=
          ((((HB.out.setCell (by show _ ≤ w.heap.size + 1; omega) _).setCell (by show _ ≤ w.heap.size + 1; omega) _).setCell (by show _ ≤ w.heap.size + 1; omega) _).setCell (by show _ ≤ w.heap.size + 1; omega) _).setCell (by show _ ≤ w.heap.size + 1; omega) _
        have hs : (((((wr.setCell ⟨w.heap.size + 1, 0, none⟩ (.int .i64 op)).setCell ⟨w.heap.size + 1, 1, none⟩ (.string t)).setCell ⟨w.heap.size + 1, 2, none⟩ (.int .i64 n)).setCell ⟨w.heap.size + 1, 3, none⟩ (.complex .f64 x y)).setCell ⟨w.heap.size + 1, 4, none⟩ (.slice oa' k cap')).heap.size = wr.heap.size := by simp [World.setCell]
        have hW : ∀ b o, w.heap.size + 3 ≤ b → (((((wr.setCell ⟨w.heap.size + 1, 0, none⟩ (.int .i64 op)).setCell ⟨w.heap.size + 1, 1, none⟩ (.string t)).setCell ⟨w.heap.size + 1, 2, none⟩ (.int .i64 n)).setCell ⟨w.heap.size + 1, 3, none⟩ (.complex .f64 x y)).setCell ⟨w.heap.size + 1, 4, none⟩ (.slice oa' k cap')).cell? ⟨b, o, none⟩ = wr.cell? ⟨b, o, none⟩ := fun b o h => by
          have h1 : b ≠ w.heap.size + 1 := by omega
          refine World.cell?_of_block ?_
          rw [Below.heap_setCell _ _ _ _ h1, Below.heap_setCell _ _ _ _ h1, Below.heap_setCell _ _ _ _ h1, Below.heap_setCell _ _ _ _ h1, Below.heap_setCell _ _ _ _ h1]
        have HE := Lib.hid (conv_end (op := op) (n := n) (x := x) (y := y) HLEN.out ht HO.out HLA.out HLI.out hW hs)
        clear hW hs l1 l2 l3 f2 z1 z2 z3
        revert of bf HE
        generalize ((((wr.setCell ⟨w.heap.size + 1, 0, none⟩ (.int .i64 op)).setCell ⟨w.heap.size + 1, 1, none⟩ (.string t)).setCell ⟨w.heap.size + 1, 2, none⟩ (.int .i64 n)).setCell ⟨w.heap.size + 1, 3, none⟩ (.complex .f64 x y)).setCell ⟨w.heap.size + 1, 4, none⟩ (.slice oa' k cap') = W
        intro of bf HE
        have lf := of.cell
        refine bodyPost_ret (v := .agg #[.int .i64 op, .string t, .int .i64 n, .complex .f64 x y, .slice oa' k cap']) (by simp [results, Tryz.results39, go_sem, lf]) rfl ⟨_, rfl, HE.out, bf⟩
end Go.Proofs.YthbjgfennclidaaGreat
/- Is what is known little? The law's helper, walked. -/
namespace Go.Proofs.YthbjgfennclidaaGreat
set_option linter.unusedVariables false
set_option linter.unusedSimpArgs false
set_option maxRecDepth 100000
open Go.RowKit
def knownB (K : Kn) : Bool := decide (K.l.length ≤ 30) && K.l.all fun f => decide (f.ids.length ≤ 60)
def knownI (K : Kn) : Int := if knownB K = true then 1 else 0
theorem known_flat {K : Kn} (h : knownB K = true) : K.l.length ≤ 30 ∧ (flatI K.l).length ≤ 1800 := by
  unfold knownB at h
  rw [Bool.and_eq_true, decide_eq_true_eq, List.all_eq_true] at h
  refine ⟨h.1, ?_⟩
  have : ∀ l : List Fr, (∀ f ∈ l, decide (f.ids.length ≤ 60) = true) → (flatI l).length ≤ l.length * 60 := by
    intro l
    induction l with
    | nil => intro _; simp [flatI]
    | cons f l ih =>
      intro hl
      have h1 := ih fun g hg => hl g (by simp [hg])
      have h2 := hl f (by simp)
      rw [decide_eq_true_eq] at h2
      have e : flatI (f :: l) = f.ids ++ flatI l := rfl
      rw [e, List.length_append, List.length_cons]
      omega
  have h1 := this K.l h.2
  have h2 := h.1
  omega
def KnRel (l : List Fr) (len : Nat) (X : Array Value) (w : World) (iv : Value) (wr : World) : Prop :=
  ∃ k : Nat, k ≤ len ∧ iv = .int .i64 k ∧ Hid (∀ j f, j < k → l[j]? = some f → f.ids.length ≤ 60) ∧ wr = (w.alloc (.cells X 31))
set_option maxRecDepth 100000 in
set_option maxHeartbeats 4000000 in
theorem known_calls (K : Kn) (v : Value) (w : World) (hR : FrW w K.l v) :
    Calls Tryz.prog 25 #[knV K.star v] w fun e w' => e = .returned (.int .i64 (knownI K)) ∧ Below w.heap.size w w' := by
  obtain ⟨A, l⟩ := K
  simp only at hR ⊢
  obtain ⟨U, oa, cap, b0, o, rfl, hr⟩ := hR
  have HR := Lib.hid hr
  have hcap := hr.len
  have hmax := hr.max
  unfold maxLen at hmax
  clear hr
  have HE := Lib.hid (show knownI ⟨A, l⟩ = if (decide (l.length ≤ 30) && l.all fun f => decide (f.ids.length ≤ 60)) = true then 1 else 0 from rfl)
  generalize knownI ⟨A, l⟩ = res at *
  generalize hn : l.length = len at *
  have HN := Lib.hid hn
  clear hn
  have OA := Lib.hid (Has.new w (knA A (.slice oa len cap)) 31)
  have BE := Lib.hid ((Below.refl w.heap.size w).alloc (Nat.le_refl _) (.cells (knA A (.slice oa len cap)) 31))
  by_cases h30 : 30 < len
  · have E := Lib.hid (show res = 0 by rw [HE.out, if_neg (by simp; omega)])
    go_enter Tryz.func25, Tryz.ntmps25
    go_wp2_with fail
    go_ret
    exact ⟨ret_int E.out.symm, BE.out⟩
  go_enter Tryz.func25, Tryz.ntmps25
  go_wp2_with fail
  go_loopw [3] (fun iv wr => KnRel l len (knA A (.slice oa len cap)) w iv wr) (fun iv _ => len - (intOf iv).toNat)
  case atStart => exact ⟨0, Nat.zero_le _, rfl, fun j f hj => absurd hj (by omega), rfl⟩
  case round =>
    obtain ⟨k, hk, rfl, HA, rfl⟩ := hrel
    have l1 := OA.out.cell
    have z1 := OA.out.lt
    by_cases hlt : k < len
    · obtain ⟨f, hf⟩ : ∃ f, l[k]? = some f := ⟨_, List.getElem?_eq_getElem (by rw [HN.out]; exact hlt)⟩
      obtain ⟨rfl, hb0⟩ := HR.out.at0 (by rw [HN.out]; omega)
      obtain ⟨c0, _⟩ := fc_cells (w := w) (fun j z hz => HR.out.cell k f hf j z hz)
      obtain ⟨ou, cu, hu⟩ := (HR.out.ids k f hf).val
      rw [hu] at c0
      have HF := Lib.hid hf
      clear hf hu
      generalize hnf : f.ids.length = nf at *
      have HNF := Lib.hid hnf
      clear hnf
      by_cases h60 : 60 < nf
      · have E := Lib.hid (show res = 0 by
          rw [HE.out, if_neg]
          rw [Bool.and_eq_true, List.all_eq_true]
          rintro ⟨_, h⟩
          have := h f (List.mem_of_getElem? HF.out)
          rw [decide_eq_true_eq, HNF.out] at this
          omega)
        go_wp2_with fail
        go_ret
        exact ⟨ret_int E.out.symm, BE.out⟩
      · have HA2 := Lib.hid (show ∀ j g, j < k + 1 → l[j]? = some g → g.ids.length ≤ 60 from fun j g hj hg => by
          by_cases e : j = k
          · subst e; rw [HF.out] at hg; cases hg; rw [HNF.out]; omega
          · exact HA.out j g (by omega) hg)
        go_wp2_with fail
        go_roundw
        case rel => exact ⟨k + 1, by omega, by go_num, HA2, by first | rfl | trivial⟩
        case measure => simp [intOf]; omega
    · have e : len = k := by omega
      subst e
      have E := Lib.hid (show res = 1 by
        rw [HE.out, if_pos]
        rw [Bool.and_eq_true, List.all_eq_true]
        refine ⟨by simp; omega, fun f hf => ?_⟩
        obtain ⟨j, hj, e⟩ := List.mem_iff_getElem.1 hf
        rw [decide_eq_true_eq]
        exact HA.out j f (by have := HN.out; omega) (by rw [List.getElem?_eq_getElem hj, e]))
      go_wp2_with fail
      go_ret
      exact ⟨ret_int E.out.symm, BE.out⟩
end Go.Proofs.YthbjgfennclidaaGreat
