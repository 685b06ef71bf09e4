/- Joined: RefFits, SeenM, Same, Far, Stock. -/
import Derived.Test.YthbjgfennclidaaGreatJ13
import Derived.Deep.DeepCutAuto
import Derived.Deep.CutBlock
import Derived.Test.YthbjgfennclidaaGreatJ10
import Derived.Test.YthbjgfennclidaaGreatJ08
import Derived.Test.YthbjgfennclidaaGreatJ01
/- Whether a filter may be: the document's answer. -/
namespace Go.Proofs.YthbjgfennclidaaGreat
set_option linter.unusedVariables false
set_option linter.unusedSimpArgs false
set_option maxRecDepth 100000
open Go.RowKit
theorem feq_00 : feq 0 0 = true := by decide +kernel
theorem bool_eq {a b : Bool} (h : a = b) : Value.bool a = .bool b := by rw [h]
theorem refPart1 (t : ByteArray) (n : Int) (x y len : Nat) : Pr.partB 1 t n x y len = zeroB false false false false t n x y len := by
  simp [Pr.partB, Pr.bareB, zeroB, inW, feq_00]
  try ac_rfl
theorem refPart2 (t : ByteArray) (n : Int) (x y len : Nat) : Pr.partB 2 t n x y len = zeroB false false false false t n x y len := by
  simp [Pr.partB, Pr.bareB, zeroB, inW, feq_00]
  try ac_rfl
theorem refPart3 (t : ByteArray) (n : Int) (x y len : Nat) : Pr.partB 3 t n x y len = (zeroB true false false false t n x y len && txtB t) := by
  simp [Pr.partB, Pr.bareB, zeroB, inW, feq_00]
  try ac_rfl
theorem refPart4 (t : ByteArray) (n : Int) (x y len : Nat) : Pr.partB 4 t n x y len = (zeroB true false false false t n x y len && txtB t) := by
  simp [Pr.partB, Pr.bareB, zeroB, inW, feq_00]
  try ac_rfl
theorem refPart5 (t : ByteArray) (n : Int) (x y len : Nat) : Pr.partB 5 t n x y len = (zeroB false true false false t n x y len && inW n (-1000000) 1000000) := by
  simp [Pr.partB, Pr.bareB, zeroB, inW, feq_00]
  try ac_rfl
theorem refPart6 (t : ByteArray) (n : Int) (x y len : Nat) : Pr.partB 6 t n x y len = (zeroB false true false false t n x y len && inW n (-1000000) 1000000) := by
  simp [Pr.partB, Pr.bareB, zeroB, inW, feq_00]
  try ac_rfl
theorem refPart7 (t : ByteArray) (n : Int) (x y len : Nat) : Pr.partB 7 t n x y len = (zeroB false true true false t n x y len && (mayB x y && inW n 0 8000000)) := by
  simp [Pr.partB, Pr.bareB, zeroB, inW, feq_00]
  try ac_rfl
theorem refPart8 (t : ByteArray) (n : Int) (x y len : Nat) : Pr.partB 8 t n x y len = zeroB false false false true t n x y len := by
  simp [Pr.partB, Pr.bareB, zeroB, inW, feq_00]
  try ac_rfl
theorem refPart9 (t : ByteArray) (n : Int) (x y len : Nat) : Pr.partB 9 t n x y len = zeroB false false false true t n x y len := by
  simp [Pr.partB, Pr.bareB, zeroB, inW, feq_00]
  try ac_rfl
theorem refPart10 (t : ByteArray) (n : Int) (x y len : Nat) : Pr.partB 10 t n x y len = (zeroB false false false true t n x y len && decide (len = 1)) := by
  simp [Pr.partB, Pr.bareB, zeroB, inW, feq_00]
  try ac_rfl
def AllRel (l : List Pr) (len : Nat) (b0 : Bool) (w0 : World) (ok i : Value) (wr : World) : Prop :=
  ∃ (k : Nat) (a : Bool), k ≤ len ∧ i = .int .i64 k ∧ ok = .bool a ∧ Hid (a = (b0 && Pr.alls (l.take k))) ∧ Below w0.heap.size w0 wr
set_option maxRecDepth 100000 in
set_option maxHeartbeats 4000000 in
theorem refFits_calls (p : Pr) : ∀ (v : Value) (w : World), LP w p v → p.size ≤ 1000 →
    Calls Tryz.prog 102 #[.agg #[.int .i64 p.op, .string p.text, .int .i64 p.n, .complex .f64 p.x p.y, v]] w fun e w' => e = .returned (.bool p.all) ∧ Below w.heap.size w w' := by
  induction p using Pr.ind with
  | h op t n x y kids ih =>
    intro v w hL hsz
    obtain ⟨oa, cap, b, o, V, rfl, ht, hl, hc, hn, hcell, hrec⟩ := lies_slice hL
    simp only [Pr.kids_node, Pr.text_node, Pr.op_node, Pr.n_node, Pr.x_node, Pr.y_node, Pr.size] at *
    have HT := fun w => Lib.hid (refText_calls t w ht)
    have HM := fun w => Lib.hid (place_calls x y w)
    unfold maxLen at hc
    have h1000 := Pr.len_le_sizes kids
    have HC := Lib.hid hcell
    have HR := Lib.hid hrec
    have HN := Lib.hid hn
    have HI := Lib.hid ih
    clear hL hcell hrec hn ih
    generalize hlen : kids.length = len at *
    have HLEN := Lib.hid hlen
    clear hlen
    go_enter Tryz.func102, Tryz.ntmps102
    go_upto_block 0 with (first
      | (go_at_call 158; refine (HT _).out.mono ?_; rintro e w' ⟨rfl, rfl⟩)
      | (go_at_call 119; refine (HM _).out.mono ?_; rintro e w' ⟨rfl, rfl⟩))
    go_cut [3, 5] (fun s3 _ wx => s3 = .bool (Pr.partB op t n x y len) ∧ Hid (Below w.heap.size w wx ∧ Has wx w.heap.size #[.int .i64 op, .string t, .int .i64 n, .complex .f64 x y, .slice oa len cap]))
    case first =>
      clear HC HR HN HI HT HM HLEN
      have Z := fun bt bn ba bk op n w => Lib.hid (zero_calls bt bn ba bk op t n x y oa len cap w)
      have G := Lib.hid (Own.new w #[.int .i64 op, .string t, .int .i64 n, .complex .f64 x y, .slice oa len cap] 44)
      have hop : op = 1 ∨ op = 2 ∨ op = 3 ∨ op = 4 ∨ op = 5 ∨ op = 6 ∨ op = 7 ∨ op = 8 ∨ op = 9 ∨ op = 10 ∨ (op ≠ 1 ∧ op ≠ 2 ∧ op ≠ 3 ∧ op ≠ 4 ∧ op ≠ 5 ∧ op ≠ 6 ∧ op ≠ 7 ∧ op ≠ 8 ∧ op ≠ 9 ∧ op ≠ 10) := by omega
      rcases hop with rfl | rfl | rfl | rfl | rfl | rfl | rfl | rfl | rfl | rfl | ⟨n1, n2, n3, n4, n5, n6, n7, n8, n9, n10⟩
      · have E := Lib.hid (refPart1 t n x y len)
        go_wp2_with (go_at_call 159; refine (Z _ _ _ _ _ _ _).out.mono ?_; rintro e w' ⟨rfl, hb⟩; have hg := (G.out.later hb).cell)
        all_goals
          go_meet
          refine ⟨bool_eq ?_, below_new hb, (G.out.later hb).has⟩
          rw [E.out]
          try (first | (simp_all [inW]; done) | (simp_all [inW]; omega))
      · have E := Lib.hid (refPart2 t n x y len)
        go_wp2_with (go_at_call 159; refine (Z _ _ _ _ _ _ _).out.mono ?_; rintro e w' ⟨rfl, hb⟩; have hg := (G.out.later hb).cell)
        all_goals
          go_meet
          refine ⟨bool_eq ?_, below_new hb, (G.out.later hb).has⟩
          rw [E.out]
          try (first | (simp_all [inW]; done) | (simp_all [inW]; omega))
      · have E := Lib.hid (refPart3 t n x y len)
        go_wp2_with (go_at_call 159; refine (Z _ _ _ _ _ _ _).out.mono ?_; rintro e w' ⟨rfl, hb⟩; have hg := (G.out.later hb).cell)
        all_goals
          go_meet
          refine ⟨bool_eq ?_, below_new hb, (G.out.later hb).has⟩
          rw [E.out]
          try (first | (simp_all [inW]; done) | (simp_all [inW]; omega))
      · have E := Lib.hid (refPart4 t n x y len)
        go_wp2_with (go_at_call 159; refine (Z _ _ _ _ _ _ _).out.mono ?_; rintro e w' ⟨rfl, hb⟩; have hg := (G.out.later hb).cell)
        all_goals
          go_meet
          refine ⟨bool_eq ?_, below_new hb, (G.out.later hb).has⟩
          rw [E.out]
          try (first | (simp_all [inW]; done) | (simp_all [inW]; omega))
      · have E := Lib.hid (refPart5 t n x y len)
        go_wp2_with (go_at_call 159; refine (Z _ _ _ _ _ _ _).out.mono ?_; rintro e w' ⟨rfl, hb⟩; have hg := (G.out.later hb).cell)
        all_goals
          go_meet
          refine ⟨bool_eq ?_, below_new hb, (G.out.later hb).has⟩
          rw [E.out]
          try (first | (simp_all [inW]; done) | (simp_all [inW]; omega))
      · have E := Lib.hid (refPart6 t n x y len)
        go_wp2_with (go_at_call 159; refine (Z _ _ _ _ _ _ _).out.mono ?_; rintro e w' ⟨rfl, hb⟩; have hg := (G.out.later hb).cell)
        all_goals
          go_meet
          refine ⟨bool_eq ?_, below_new hb, (G.out.later hb).has⟩
          rw [E.out]
          try (first | (simp_all [inW]; done) | (simp_all [inW]; omega))
      · have E := Lib.hid (refPart7 t n x y len)
        go_wp2_with (go_at_call 159; refine (Z _ _ _ _ _ _ _).out.mono ?_; rintro e w' ⟨rfl, hb⟩; have hg := (G.out.later hb).cell)
        all_goals
          go_meet
          refine ⟨bool_eq ?_, below_new hb, (G.out.later hb).has⟩
          rw [E.out]
          try (first | (simp_all [inW]; done) | (simp_all [inW]; omega))
      · have E := Lib.hid (refPart8 t n x y len)
        go_wp2_with (go_at_call 159; refine (Z _ _ _ _ _ _ _).out.mono ?_; rintro e w' ⟨rfl, hb⟩; have hg := (G.out.later hb).cell)
        all_goals
          go_meet
          refine ⟨bool_eq ?_, below_new hb, (G.out.later hb).has⟩
          rw [E.out]
          try (first | (simp_all [inW]; done) | (simp_all [inW]; omega))
      · have E := Lib.hid (refPart9 t n x y len)
        go_wp2_with (go_at_call 159; refine (Z _ _ _ _ _ _ _).out.mono ?_; rintro e w' ⟨rfl, hb⟩; have hg := (G.out.later hb).cell)
        all_goals
          go_meet
          refine ⟨bool_eq ?_, below_new hb, (G.out.later hb).has⟩
          rw [E.out]
          try (first | (simp_all [inW]; done) | (simp_all [inW]; omega))
      · have E := Lib.hid (refPart10 t n x y len)
        have f2 := len_one len
        go_wp2_with (go_at_call 159; refine (Z _ _ _ _ _ _ _).out.mono ?_; rintro e w' ⟨rfl, hb⟩; have hg := (G.out.later hb).cell)
        all_goals
          go_meet
          refine ⟨bool_eq ?_, below_new hb, (G.out.later hb).has⟩
          rw [E.out]
          try (first | (simp_all [inW]; done) | (simp_all [inW]; omega))
      · have E := Lib.hid (show Pr.partB op t n x y len = false by simp [Pr.partB, n1, n2, n3, n4, n5, n6, n7, n8, n9, n10])
        go_wp2_with fail
        all_goals
          go_meet
          exact ⟨bool_eq E.out.symm, (Below.refl _ _).alloc (Nat.le_refl _) _, G.out.has⟩
    case rest =>
      obtain ⟨rfl, hh⟩ := hcut
      obtain ⟨hB, g0⟩ := Hid.out hh
      have HBW := Lib.hid hB
      clear hh hB HT HM
      generalize hb0 : Pr.partB op t n x y len = b0
      have HP := Lib.hid hb0
      clear hb0
      go_wp2_with fail
      go_loopw [3, 6] (fun ok i wr => AllRel kids len b0 wc ok i wr) (fun _ i _ => len - (intOf i).toNat)
      case atStart => exact ⟨0, b0, Nat.zero_le _, rfl, rfl, by simp [Hid, Pr.alls], Below.refl _ _⟩
      case round =>
        obtain ⟨k, a, hk, rfl, rfl, HA, hb⟩ := hrel
        have g := g0.below hb g0.lt
        by_cases hlt : k < len
        · obtain ⟨q, hq⟩ : ∃ q, kids[k]? = some q := ⟨_, List.getElem?_eq_getElem (by rw [HLEN.out]; exact hlt)⟩
          obtain ⟨rfl, hB⟩ := HN.out (by omega)
          obtain ⟨oq, cq, hV⟩ := lies_val (HR.out k q hq)
          have hbw : Below w.heap.size w wr := HBW.out.trans (hb.mono HBW.out.size)
          obtain ⟨c0, c1, c2, c3, c4⟩ := pc_cells (w := wr) (fun j u hu => (hbw.cell (p := ⟨b, o + k * 5 + j, none⟩) hB).trans (HC.out k q hq j u hu))
          have L0 := (HR.out k q hq).later hbw (Nat.le_refl _)
          rw [hV] at c4 L0
          have hqs := Pr.size_mem (List.mem_of_getElem? hq)
          have CC := Lib.hid (HI.out q (List.mem_of_getElem? hq) (.slice oq q.kids.length cq) wr L0 (by omega))
          have h6 := Pr.alls_take hq
          have HA1 := Lib.hid (show (a && q.all) = (b0 && Pr.alls (kids.take (k + 1))) by rw [h6, HA.out, Bool.and_assoc])
          have HB := Lib.hid hb
          clear hb hbw hq L0 h6 hV
          generalize q.all = qa at *
          have l := g.cell
          have z := g.lt
          clear g
          go_wp2_with (go_at_call 102; refine CC.out.mono ?_; rintro e w' ⟨rfl, hb'⟩)
          all_goals
            go_roundw
            case rel => exact ⟨k + 1, a && qa, by omega, by go_num, by simp_all, HA1.out, HB.out.trans (hb'.mono HB.out.size)⟩
            case measure => simp [intOf]; omega
        · have HB := Lib.hid hb
          clear hb
          have l := g.cell
          have z := g.lt
          clear g
          have e : k = len := by omega
          have h7 := HA.out
          rw [Pr.take_all kids (by rw [HLEN.out]; omega)] at h7
          have HE := Lib.hid (show a = (Pr.node op t n x y kids).all by rw [h7]; simp only [Pr.all]; rw [HLEN.out, HP.out])
          clear h7 e
          go_wp2_with fail
          go_ret
          exact ⟨ret_bool HE.out, HBW.out.trans (HB.out.mono HBW.out.size)⟩
end Go.Proofs.YthbjgfennclidaaGreat
/- Which filter is seen in which: plain mathematics. No walk. -/
namespace Go.Proofs.YthbjgfennclidaaGreat
set_option linter.unusedVariables false
set_option linter.unusedSimpArgs false
set_option maxRecDepth 100000
namespace Pr
def seenF : Nat → Pr → Pr → Bool
  | 0, _, _ => false
  | n + 1, p, q =>
    ((decide (q.op = 1) || decide (p.op = 2)) || same p q) ||
    ((((decide (p.op = 9) && p.kids.all fun k => seenF n k q) || (decide (p.op = 8) && p.kids.any fun k => seenF n k q)) || ((decide (q.op = 8) && q.kids.all fun k => seenF n p k) || (decide (q.op = 9) && q.kids.any fun k => seenF n p k))) ||
    (decide (p.op = q.op) && (if p.op = 4 then begB p.text q.text else if p.op = 5 then decide (p.n ≤ q.n) else if p.op = 6 then decide (q.n ≤ p.n) else if p.op = 7 then (feq p.x q.x && (feq p.y q.y && decide (p.n ≤ q.n)))
      else if p.op = 10 then (match p.kids, q.kids with | a :: _, b :: _ => seenF n b a | _, _ => false) else false)))
def seenB (p q : Pr) : Bool := seenF (p.size + q.size) p q
theorem all_congr {l : List Pr} {f g : Pr → Bool} (h : ∀ k ∈ l, f k = g k) : l.all f = l.all g := by
  induction l with
  | nil => rfl
  | cons a l ih => rw [List.all_cons, List.all_cons, h a (by simp), ih fun k hk => h k (by simp [hk])]
theorem any_congr {l : List Pr} {f g : Pr → Bool} (h : ∀ k ∈ l, f k = g k) : l.any f = l.any g := by
  induction l with
  | nil => rfl
  | cons a l ih => rw [List.any_cons, List.any_cons, h a (by simp), ih fun k hk => h k (by simp [hk])]
theorem kid_size {p k : Pr} (h : k ∈ p.kids) : k.size + 1 ≤ p.size := by
  have := size_mem h; have := size_kids p; omega
theorem seenF_eq : ∀ (n m : Nat) (p q : Pr), p.size + q.size ≤ n → p.size + q.size ≤ m → seenF n p q = seenF m p q := by
  intro n
  induction n with
  | zero => intro m p q h; have := size_pos p; omega
  | succ n ih =>
    intro m p q h1 h2
    cases m with
    | zero => have := size_pos p; omega
    | succ m =>
      have e1 : ∀ k ∈ p.kids, seenF n k q = seenF m k q := fun k hk => ih m k q (by have := kid_size hk; omega) (by have := kid_size hk; omega)
      have e2 : ∀ k ∈ q.kids, seenF n p k = seenF m p k := fun k hk => ih m p k (by have := kid_size hk; omega) (by have := kid_size hk; omega)
      have e3 : ∀ a ∈ p.kids, ∀ b ∈ q.kids, seenF n b a = seenF m b a := fun a ha b hb => ih m b a (by have := kid_size ha; have := kid_size hb; omega) (by have := kid_size ha; have := kid_size hb; omega)
      unfold seenF
      rw [all_congr e1, any_congr e1, all_congr e2, any_congr e2]
      congr 3
      revert e3
      generalize p.kids = l
      generalize q.kids = l'
      intro e3
      cases l with
      | nil => rfl
      | cons a l => cases l' with
        | nil => rfl
        | cons b l' => simp only [e3 a (by simp) b (by simp)]
def kidB : List Pr → List Pr → Bool
  | a :: _, b :: _ => seenB b a
  | _, _ => false
def listsB (p q : Pr) : Bool := ((decide (p.op = 9) && p.kids.all fun k => seenB k q) || (decide (p.op = 8) && p.kids.any fun k => seenB k q)) || ((decide (q.op = 8) && q.kids.all fun k => seenB p k) || (decide (q.op = 9) && q.kids.any fun k => seenB p k))
def restB (p q : Pr) : Bool := decide (p.op = q.op) && (if p.op = 4 then begB p.text q.text else if p.op = 5 then decide (p.n ≤ q.n) else if p.op = 6 then decide (q.n ≤ p.n) else if p.op = 7 then (feq p.x q.x && (feq p.y q.y && decide (p.n ≤ q.n)))
      else if p.op = 10 then kidB p.kids q.kids else false)
theorem restB_node (op : Int) (t : ByteArray) (n : Int) (x y : Nat) (l : List Pr) (op' : Int) (t' : ByteArray) (n' : Int) (x' y' : Nat) (l' : List Pr) : restB (node op t n x y l) (node op' t' n' x' y' l') =
    (decide (op = op') && (if op = 4 then begB t t' else if op = 5 then decide (n ≤ n') else if op = 6 then decide (n' ≤ n) else if op = 7 then (feq x x' && (feq y y' && decide (n ≤ n'))) else if op = 10 then kidB l l' else false)) := rfl
theorem seenB_eq (p q : Pr) : seenB p q = (((decide (q.op = 1) || decide (p.op = 2)) || same p q) || (listsB p q || restB p q)) := by
  obtain ⟨n, hn⟩ : ∃ n, p.size + q.size = n + 1 := ⟨p.size + q.size - 1, by have := size_pos p; omega⟩
  have e1 : ∀ k ∈ p.kids, seenF n k q = seenB k q := fun k hk => seenF_eq n _ k q (by have := kid_size hk; omega) (Nat.le_refl _)
  have e2 : ∀ k ∈ q.kids, seenF n p k = seenB p k := fun k hk => seenF_eq n _ p k (by have := kid_size hk; omega) (Nat.le_refl _)
  have e3 : ∀ a ∈ p.kids, ∀ b ∈ q.kids, seenF n b a = seenB b a := fun a ha b hb => seenF_eq n _ b a (by have := kid_size ha; have := kid_size hb; omega) (Nat.le_refl _)
  rw [seenB, hn, seenF]
  rw [all_congr e1, any_congr e1, all_congr e2, any_congr e2]
  unfold listsB restB
  congr 3
  revert e3
  generalize p.kids = l
  generalize q.kids = l'
  intro e3
  cases l with
  | nil => rfl
  | cons a l => cases l' with
    | nil => rfl
    | cons b l' => simp only [kidB, e3 a (by simp) b (by simp)]
/-! ### What is seen is so -/
def inB (p q : Pr) : Bool := (p.mayB && q.mayB) && seenB p q
end Pr
end Go.Proofs.YthbjgfennclidaaGreat
/- Whether two filters are the same: the walks; and the document's May. -/
namespace Go.Proofs.YthbjgfennclidaaGreat
set_option linter.unusedVariables false
set_option linter.unusedSimpArgs false
set_option maxRecDepth 100000
open Go.RowKit
set_option maxHeartbeats 1000000 in
theorem refMay3_calls (p : Pr) (v : Value) (w : World) (hL : LP w p v) (hsz : p.size ≤ 1000) :
    Calls Tryz.prog 47 #[.agg #[.int .i64 p.op, .string p.text, .int .i64 p.n, .complex .f64 p.x p.y, v]] w fun e w' => e = .returned (.bool p.mayB) ∧ Below w.heap.size w w' := by
  obtain ⟨oq, cq, rfl⟩ := lies_val hL
  have S := fun w' h => Lib.hid (refSize_calls p (.slice oq p.kids.length cq) w' h hsz)
  have D := fun w' h => Lib.hid (refDepth_calls p (.slice oq p.kids.length cq) w' h hsz)
  have A := fun w' h => Lib.hid (refFits_calls p (.slice oq p.kids.length cq) w' h hsz)
  have L0 := hL.atAlloc (.cells #[.int .i64 p.op, .string p.text, .int .i64 p.n, .complex .f64 p.x p.y, .slice oq p.kids.length cq] 44)
  have G0 := Lib.hid (Own.new w #[.int .i64 p.op, .string p.text, .int .i64 p.n, .complex .f64 p.x p.y, .slice oq p.kids.length cq] 44)
  have L := Lib.hid L0
  clear hL L0
  have e : p.mayB = (decide ((p.size : Int) ≤ 30) && (decide ((p.depth : Int) ≤ 6) && p.all)) := rfl
  rw [e]
  clear e
  by_cases h1 : (p.size : Int) ≤ 30
  · by_cases h2 : (p.depth : Int) ≤ 6
    · rw [decide_eq_true h1, decide_eq_true h2, Bool.true_and, Bool.true_and]
      generalize p.all = pa at *
      go_enter Tryz.func47, Tryz.ntmps47
      go_wp2_with fail
      refine (S _ L.out).out.mono ?_; rintro e w1 ⟨rfl, hb1⟩
      have G1 := Lib.hid (G0.out.later hb1)
      have L1 := Lib.hid (L.out.later hb1 (Nat.le_refl _))
      have B1 := Lib.hid (below_new hb1)
      clear hb1
      have l1 := G1.out.cell
      go_wp2_with fail
      refine (D _ L1.out).out.mono ?_; rintro e w2 ⟨rfl, hb2⟩
      have G2 := Lib.hid (G1.out.later hb2)
      have L2 := Lib.hid (L1.out.later hb2 (Nat.le_refl _))
      have B2 := Lib.hid (B1.out.trans (hb2.mono B1.out.size))
      clear hb2 l1
      have l2 := G2.out.cell
      go_wp2_with fail
      refine (A _ L2.out).out.mono ?_; rintro e w3 ⟨rfl, hb3⟩
      go_wp2_with fail
      go_ret
      exact ⟨rfl, B2.out.trans (hb3.mono B2.out.size)⟩
    · rw [decide_eq_true h1, decide_eq_false h2, Bool.true_and, Bool.false_and]
      go_enter Tryz.func47, Tryz.ntmps47
      go_wp2_with fail
      refine (S _ L.out).out.mono ?_; rintro e w1 ⟨rfl, hb1⟩
      have G1 := Lib.hid (G0.out.later hb1)
      have L1 := Lib.hid (L.out.later hb1 (Nat.le_refl _))
      have B1 := Lib.hid (below_new hb1)
      clear hb1
      have l1 := G1.out.cell
      go_wp2_with fail
      refine (D _ L1.out).out.mono ?_; rintro e w2 ⟨rfl, hb2⟩
      go_wp2_with fail
      go_ret
      exact ⟨rfl, B1.out.trans (hb2.mono B1.out.size)⟩
  · rw [decide_eq_false h1, Bool.false_and]
    go_enter Tryz.func47, Tryz.ntmps47
    go_wp2_with fail
    refine (S _ L.out).out.mono ?_; rintro e w1 ⟨rfl, hb1⟩
    go_wp2_with fail
    go_ret
    exact ⟨rfl, below_new hb1⟩
abbrev LK (w : World) (l : List Pr) (v : Value) : Prop := LP w (.node 0 ⟨#[]⟩ 0 0 0 l) v
theorem lies_kids {w : World} {p : Pr} {v : Value} (h : LP w p v) : LK w p.kids v := by
  cases h with
  | mk op t n x y kids oa cap b o V ht hl hc hn hcell hrec => exact .mk _ _ _ _ _ kids oa cap b o V (by decide) hl hc hn hcell hrec
def SameFn (k : Pr) : Prop := ∀ (q : Pr) (v v' : Value) (w : World), LP w k v → LP w q v' →
    Calls Tryz.prog 211 #[.agg #[.int .i64 k.op, .string k.text, .int .i64 k.n, .complex .f64 k.x k.y, v], .agg #[.int .i64 q.op, .string q.text, .int .i64 q.n, .complex .f64 q.x q.y, v']] w fun e w' => e = .returned (.bool (Pr.same k q)) ∧ Below w.heap.size w w'
def EqRel (l m : List Pr) (len : Nat) (w0 : World) (i : Value) (wr : World) : Prop :=
  ∃ k : Nat, k ≤ len ∧ i = .int .i64 k ∧ Hid (Pr.sames (l.take k) (m.take k) = true) ∧ Below w0.heap.size w0 wr
set_option maxHeartbeats 2000000 in
theorem equal_calls (l m : List Pr) (H : ∀ k ∈ l, SameFn k) (oa ob : Option Addr) (cap cap' : Nat) (w : World) (hL : LK w l (.slice oa l.length cap)) (hM : LK w m (.slice ob m.length cap')) :
    Calls Tryz.prog 223 #[.slice oa l.length cap, .slice ob m.length cap', .func (Fn.func 211) #[] #[]] w fun e w' => e = .returned (.bool (Pr.sames l m)) ∧ Below w.heap.size w w' := by
  obtain ⟨_, _, b, o, V, e1, _, hl, hc, hn, hcell, hrec⟩ := lies_slice hL
  obtain ⟨_, _, b', o', V', e2, _, hl', hc', hn', hcell', hrec'⟩ := lies_slice hM
  cases e1
  cases e2
  simp only [Pr.kids_node] at *
  unfold maxLen at hc hc'
  have HC := Lib.hid hcell
  have HR := Lib.hid hrec
  have HN := Lib.hid hn
  have HC' := Lib.hid hcell'
  have HR' := Lib.hid hrec'
  have HN' := Lib.hid hn'
  have HH := Lib.hid H
  clear hL hcell hrec hn hM hcell' hrec' hn' H
  generalize hla : l.length = la at *
  generalize hlb : m.length = lb at *
  have HLA := Lib.hid hla
  have HLB := Lib.hid hlb
  clear hla hlb
  by_cases hne : la = lb
  · subst hne
    go_enter Tryz.func223, Tryz.ntmps223
    go_wp2_with fail
    go_loopw [17] (fun i wr => EqRel l m la w i wr) (fun i _ => la - (intOf i).toNat)
    case atStart => exact ⟨0, Nat.zero_le _, rfl, by simp [Hid, Pr.sames], Below.refl _ _⟩
    case round =>
      obtain ⟨k, hk, rfl, HS, hb⟩ := hrel
      by_cases hlt : k < la
      · obtain ⟨p, hp⟩ : ∃ p, l[k]? = some p := ⟨_, List.getElem?_eq_getElem (by rw [HLA.out]; exact hlt)⟩
        obtain ⟨q, hq⟩ : ∃ q, m[k]? = some q := ⟨_, List.getElem?_eq_getElem (by rw [HLB.out]; exact hlt)⟩
        obtain ⟨rfl, hB⟩ := HN.out (by omega)
        obtain ⟨rfl, hB'⟩ := HN'.out (by omega)
        obtain ⟨oq, cq, hV⟩ := lies_val (HR.out k p hp)
        obtain ⟨oq', cq', hV'⟩ := lies_val (HR'.out k q hq)
        obtain ⟨c0, c1, c2, c3, c4⟩ := pc_cells (w := wr) (fun j u hu => (hb.cell (p := ⟨b, o + k * 5 + j, none⟩) hB).trans (HC.out k p hp j u hu))
        obtain ⟨d0, d1, d2, d3, d4⟩ := pc_cells (w := wr) (fun j u hu => (hb.cell (p := ⟨b', o' + k * 5 + j, none⟩) hB').trans (HC'.out k q hq j u hu))
        have z1 := Nat.lt_of_lt_of_le hB hb.size
        have z2 := Nat.lt_of_lt_of_le hB' hb.size
        have L0 := (HR.out k p hp).later hb (Nat.le_refl _)
        have M0 := (HR'.out k q hq).later hb (Nat.le_refl _)
        rw [hV] at c4 L0
        rw [hV'] at d4 M0
        have CC := fun w' h h' => HH.out p (List.mem_of_getElem? hp) q (.slice oq p.kids.length cq) (.slice oq' q.kids.length cq') w' h h'
        have L1 := fun a b => Lib.hid ((L0.atAlloc a).atAlloc b)
        have M1 := fun a b => Lib.hid ((M0.atAlloc a).atAlloc b)
        have HB := Lib.hid hb
        have HS0 := HS.out
        cases hs : Pr.same p q
        · have HF := Lib.hid (Pr.sames_at hp hq hs)
          rw [hs] at CC
          have CC := fun w' h h' => Lib.hid (CC w' h h')
          clear hb hV hV' L0 M0 HS0 hs hp hq
          go_wp2_with (go_at_call 211; refine (CC _ (L1 _ _).out (M1 _ _).out).out.mono ?_; rintro e w' ⟨rfl, hb'⟩)
          go_ret
          exact ⟨ret_bool HF.out.symm, HB.out.trans ((below_new (below_new hb')).mono HB.out.size)⟩
        · have HF := Lib.hid (Pr.sames_take hp hq HS0 hs)
          rw [hs] at CC
          have CC := fun w' h h' => Lib.hid (CC w' h h')
          clear hb hV hV' L0 M0 HS0 hs hp hq
          go_wp2_with (go_at_call 211; refine (CC _ (L1 _ _).out (M1 _ _).out).out.mono ?_; rintro e w' ⟨rfl, hb'⟩)
          go_roundw
          case rel => exact ⟨k + 1, by omega, by go_num, HF.out, HB.out.trans ((below_new (below_new hb')).mono HB.out.size)⟩
          case measure => simp [intOf]; omega
      · have HB := Lib.hid hb
        clear hb
        have e : k = la := by omega
        have h7 := HS.out
        rw [Pr.take_all l (by rw [HLA.out]; omega), Pr.take_all m (by rw [HLB.out]; omega)] at h7
        have H7 := Lib.hid h7
        clear h7 e
        go_wp2_with fail
        go_ret
        exact ⟨ret_bool H7.out.symm, HB.out⟩
  · have hz : Pr.sames l m = false := Pr.sames_not_len (by rw [HLA.out, HLB.out]; exact hne)
    rw [hz]
    clear hz
    go_enter Tryz.func223, Tryz.ntmps223
    go_wp2_with fail
    go_ret
    exact ⟨rfl, Below.refl _ _⟩
set_option maxHeartbeats 2000000 in
theorem same_any (p : Pr) : SameFn p := by
  induction p using Pr.ind with
  | h op t n x y kids ih =>
    intro q v v' w hL hL'
    obtain ⟨op', t', n', x', y', kids'⟩ := q
    obtain ⟨oa, cap, rfl⟩ := lies_val hL
    obtain ⟨oa', cap', rfl⟩ := lies_val hL'
    simp only [Pr.kids_node, Pr.text_node, Pr.op_node, Pr.n_node, Pr.x_node, Pr.y_node] at *
    have L1 := fun a b => Lib.hid (((lies_kids hL).atAlloc a).atAlloc b)
    have M1 := fun a b => Lib.hid (((lies_kids hL').atAlloc a).atAlloc b)
    simp only [Pr.kids_node] at L1 M1
    have C := fun w' h h' => Lib.hid (equal_calls kids kids' ih oa oa' cap cap' w' h h')
    have f1 : ∀ x y, (FloatKind.f64.format.order x y == some .eq) = feq x y := fun _ _ => rfl
    have f2 : Pr.same (.node op t n x y kids) (.node op' t' n' x' y' kids') = (decide (op = op') && (decide (t.toList = t'.toList) && (decide (n = n') && ((feq x x' && feq y y') && Pr.sames kids kids')))) := by simp [Pr.same]
    have F2 := Lib.hid f2
    clear f2 hL hL' ih
    go_enter Tryz.func211, Tryz.ntmps211
    go_wp2_with (refine (C _ (L1 _ _).out (M1 _ _).out).out.mono ?_; rintro e w' ⟨rfl, hb'⟩)
    all_goals
      go_ret
      refine ⟨ret_bool (by rw [F2.out]; simp_all), ?_⟩
      first
        | exact below_new (below_new hb')
        | exact ((Below.refl _ _).alloc (Nat.le_refl _) _).alloc (by simp) _
end Go.Proofs.YthbjgfennclidaaGreat
/- How far two places are apart, whether they are near: the code's walks. -/
namespace Go.Proofs.YthbjgfennclidaaGreat
set_option linter.unusedVariables false
set_option linter.unusedSimpArgs false
set_option maxRecDepth 100000
open Go.RowKit
set_option maxHeartbeats 1000000 in
theorem far_calls (a b c d : Nat) (w : World) :
    Calls Tryz.prog 204 #[.complex .f64 a b, .complex .f64 c d] w fun e w' => e = .returned (.int .i64 (farV a b c d)) ∧ w = w' := by
  unfold farV
  cases h1 : mayB a b
  · have H := fun x y => Lib.hid (may_calls x y w)
    go_enter Tryz.func204, Tryz.ntmps204
    go_wp2_with (go_at_call 146; refine ((H _ _).out).mono ?_; rw [h1]; rintro e w' ⟨rfl, rfl⟩)
    go_ret
    exact ⟨rfl, rfl⟩
  · cases h2 : mayB c d
    · have H1 := Lib.hid (may_calls a b w)
      have H2 := Lib.hid (may_calls c d w)
      go_enter Tryz.func204, Tryz.ntmps204
      go_wp2_with fail
      refine ((H1).out).mono ?_
      rw [h1]; rintro e w' ⟨rfl, rfl⟩
      go_wp2_with fail
      refine ((H2).out).mono ?_
      rw [h2]; rintro e w' ⟨rfl, rfl⟩
      go_wp2
      go_ret
      exact ⟨rfl, rfl⟩
    · have H1 := Lib.hid (may_calls a b w)
      have H2 := Lib.hid (may_calls c d w)
      obtain ⟨ia, ib, ba, bb⟩ := may_parts h1
      obtain ⟨ic, id, bc, bd⟩ := may_parts h2
      obtain ⟨re, hre, ire⟩ := Fl.diff_int ia ic (by omega)
      obtain ⟨im, him, iim⟩ := Fl.diff_int ib id (by omega)
      have hs : cSumBits .sub .f64 a b c d = some (re, im) := by
        have e1 : floatBits .sub .f64 a c = some re := hre
        have e2 : floatBits .sub .f64 b d = some im := him
        simp [cSumBits, e1, e2]
      have k1 := run_complex_sum (P := Tryz.prog) w .sub (.inr rfl) 41 .f64 a b c d re im hs
      have k2 := run_convert_float_int (P := Tryz.prog) w 22 3 .f64 .i64 re _ (by kernel_rfl) (by kernel_rfl) (Fl.toIntVal_int ire (by omega))
      have k3 := run_convert_float_int (P := Tryz.prog) w 22 3 .f64 .i64 im _ (by kernel_rfl) (by kernel_rfl) (Fl.toIntVal_int iim (by omega))
      simp only [Bool.and_self, if_true]
      generalize hp : Fl.iv a - Fl.iv c = p at *
      generalize hq : Fl.iv b - Fl.iv d = q at *
      have hp1 : -2000 ≤ p := by omega
      have hp2 : p ≤ 2000 := by omega
      have hq1 : -2000 ≤ q := by omega
      have hq2 : q ≤ 2000 := by omega
      obtain ⟨sp1, sp2⟩ := sq_bd hp1 hp2
      obtain ⟨sq1, sq2⟩ := sq_bd hq1 hq2
      clear hp hq ia ib ba bb ic id bc bd hre him ire iim hs
      have h1' := Lib.hid h1
      have h2' := Lib.hid h2
      clear h1 h2
      go_enter Tryz.func204, Tryz.ntmps204
      go_wp2_with fail
      refine ((H1).out).mono ?_
      rw [h1'.out]; rintro e w' ⟨rfl, rfl⟩
      go_wp2_with fail
      refine ((H2).out).mono ?_
      rw [h2'.out]; rintro e w' ⟨rfl, rfl⟩
      go_wp2
      go_ret
      exact ⟨rfl, rfl⟩
set_option maxHeartbeats 400000 in
theorem near_calls (a b c d : Nat) (n : Int) (w : World) :
    Calls Tryz.prog 167 #[.complex .f64 a b, .complex .f64 c d, .int .i64 n] w fun e w' => e = .returned (.bool (nearB a b c d n)) ∧ w = w' := by
  have H := Lib.hid (far_calls a b c d w)
  obtain ⟨h1, h2⟩ := farV_bd a b c d
  unfold nearB
  generalize farV a b c d = f at *
  by_cases h0 : f = -1
  · subst h0
    go_enter Tryz.func167, Tryz.ntmps167
    go_wp2_with (go_at_call 204; refine (H.out).mono ?_; rintro e w' ⟨rfl, rfl⟩)
    go_ret
    exact ⟨rfl, rfl⟩
  · have h3 : (f != -1) = true := by simp [h0]
    have h4 : decide (0 ≤ f) = true := by simp; omega
    rw [h4]
    have h4' : 0 ≤ f := by omega
    clear h4 h0
    go_enter Tryz.func167, Tryz.ntmps167
    go_wp2_with (go_at_call 204; refine (H.out).mono ?_; rintro e w' ⟨rfl, rfl⟩)
    go_ret
    exact ⟨by simp, rfl⟩
end Go.Proofs.YthbjgfennclidaaGreat
/- Rows of filters that a call owns, several of them. No walk. -/
namespace Go.Proofs.YthbjgfennclidaaGreat
set_option linter.unusedVariables false
set_option linter.unusedSimpArgs false
set_option maxRecDepth 100000
open Go.RowKit
def newsOf (V : Nat → Value) : Nat → List Pr → List Value
  | _, [] => []
  | s, p :: l => pc p (V s) ++ newsOf V (s + 1) l
theorem pc_len (p : Pr) (v : Value) : (pc p v).length = 5 := rfl
theorem news_get (V : Nat → Value) (s : Nat) (l : List Pr) (i : Nat) (p : Pr) (hp : l[i]? = some p) (j : Nat) (hj : j < 5) : (newsOf V s l)[i * 5 + j]? = (pc p (V (s + i)))[j]? := by
  induction l generalizing s i with
  | nil => simp at hp
  | cons q l ih =>
    cases i with
    | zero =>
      simp at hp; subst hp
      simp only [newsOf, Nat.zero_mul, Nat.zero_add, Nat.add_zero]
      rw [List.getElem?_append_left (by rw [pc_len]; exact hj)]
    | succ i =>
      simp at hp
      simp only [newsOf]
      rw [List.getElem?_append_right (by rw [pc_len]; omega), pc_len, show (i + 1) * 5 + j - 5 = i * 5 + j by omega, ih (s + 1) i hp, show s + 1 + i = s + (i + 1) by omega]
theorem news_congr {V W : Nat → Value} {s s' : Nat} {l : List Pr} (h : ∀ i, i < l.length → V (s + i) = W (s' + i)) : newsOf V s l = newsOf W s' l := by
  induction l generalizing s s' with
  | nil => rfl
  | cons p l ih =>
    simp only [newsOf]
    rw [show V s = W s' from h 0 (by simp), ih (fun i hi => by have := h (i + 1) (by simp; omega); rwa [show s + (i + 1) = s + 1 + i by omega, show s' + (i + 1) = s' + 1 + i by omega] at this)]
theorem news_app (V : Nat → Value) (s : Nat) (l m : List Pr) : newsOf V s (l ++ m) = newsOf V s l ++ newsOf V (s + l.length) m := by
  induction l generalizing s with
  | nil => simp [newsOf]
  | cons p l ih => simp only [List.cons_append, newsOf, ih, List.append_assoc, List.length_cons]; rw [show s + 1 + l.length = s + (l.length + 1) by omega]
def glueV (n : Nat) (V W : Nat → Value) : Nat → Value := fun i => if i < n then V i else W (i - n)
theorem news_glue (V W : Nat → Value) (l m : List Pr) : newsOf V 0 l ++ newsOf W 0 m = newsOf (glueV l.length V W) 0 (l ++ m) := by
  rw [news_app]
  congr 1
  · exact news_congr fun i hi => by simp [glueV, hi]
  · refine news_congr fun i hi => ?_
    simp only [glueV, Nat.zero_add]
    rw [if_neg (by omega), show l.length + i - l.length = i by omega]
def PRow (w : World) (base : Nat) (S : Nat → Prop) (l : List Pr) (v : Value) (V : Nat → Value) : Prop :=
  w.ownsRow base 44 5 v l.length (newsOf V 0 l) ∧ ∀ i p, l[i]? = some p → Lies 5 pc S w p (V i)
structure Rw where
  l : List Pr
  v : Value
  V : Nat → Value
def Rw.nil : Rw := ⟨[], .slice .none 0 0, fun _ => .nilFunc⟩
def Sof (w : World) (base : Nat) (R : Nat → Rw) (b : Nat) : Prop := base ≤ b ∧ b < w.heap.size ∧ ∀ i, some b ≠ (R i).v.ownBlock
structure Stock (w : World) (base : Nat) (R : Nat → Rw) : Prop where
  row : ∀ i, PRow w base (Sof w base R) (R i).l (R i).v (R i).V
  apart : ∀ i j, i ≠ j → (R i).v.ownBlock = none ∨ (R i).v.ownBlock ≠ (R j).v.ownBlock
theorem Stock.kept {w w' : World} {base : Nat} {R : Nat → Rw} (h : Stock w base R) (hb : ∀ b, base ≤ b → b < w.heap.size → w'.heap[b]? = w.heap[b]?) (hs : w.heap.size ≤ w'.heap.size) : Stock w' base R := by
  refine ⟨fun i => ⟨?_, fun j p hp => ?_⟩, h.apart⟩
  · obtain ⟨h1, h2⟩ := (h.row i).1
    refine ⟨h1, ?_⟩
    rcases h2 with h2 | ⟨g, cap, cur, hv, hg, hh, r⟩
    · exact .inl h2
    · have hlt := ((h.row i).1.lt g (by rw [hv]; rfl)).2
      exact .inr ⟨g, cap, cur, hv, hg, by rw [hb g hg hlt]; exact hh, r⟩
  · exact ((h.row i).2 j p hp).mono (fun b o hS => World.cell?_of_block (hb b hS.1 hS.2.1)) fun b hS => ⟨hS.1, Nat.lt_of_lt_of_le hS.2.1 hs, hS.2.2⟩
theorem Stock.later {w w' : World} {base : Nat} {R : Nat → Rw} (h : Stock w base R) (hb : Below w.heap.size w w') : Stock w' base R := h.kept (fun b _ hl => hb.block b hl) hb.size
theorem Stock.alloc {w : World} {base : Nat} {R : Nat → Rw} (h : Stock w base R) (o : Obj) : Stock (w.alloc o) base R := h.later ((Below.refl _ _).alloc (Nat.le_refl _) _)
theorem Stock.drew {w : World} {base : Nat} {R : Nat → Rw} (h : Stock w base R) : Stock w.drew base R := h.later (Below.refl _ _).drew
theorem Stock.setLow {w : World} {base : Nat} {R : Nat → Rw} (h : Stock w base R) (p : Addr) (v : Value) (hp : p.block < base) : Stock (w.setCell p v) base R :=
  h.kept (fun b hb _ => Below.heap_setCell _ _ _ _ (by omega)) (by simp [World.setCell])
def upd (R : Nat → Rw) (i : Nat) (r : Rw) : Nat → Rw := fun j => if j = i then r else R j
theorem upd_same (R : Nat → Rw) (i : Nat) (r : Rw) : upd R i r i = r := by simp [upd]
theorem upd_far (R : Nat → Rw) {i j : Nat} (r : Rw) (h : j ≠ i) : upd R i r j = R j := by simp [upd, h]
theorem Stock.push {w w' : World} {base : Nat} {R : Nat → Rw} (h : Stock w base R) (i : Nat) (m : List Pr) (W : Nat → Value) (hm : ∀ j p, m[j]? = some p → Lies 5 pc (Sof w base R) w p (W j)) {g cap n : Nat} (hn : n = (R i).l.length + m.length)
    (hown : w'.ownsRow base 44 5 (.slice (some ⟨g, 0, none⟩) n cap) n (newsOf (R i).V 0 (R i).l ++ newsOf W 0 m)) (hgrow : w.grownBy w' (R i).v.ownBlock) (hat : (R i).v.ownBlock = some g ∨ g = w.heap.size) :
    Stock w' base (upd R i ⟨(R i).l ++ m, .slice (some ⟨g, 0, none⟩) n cap, glueV (R i).l.length (R i).V W⟩) := by
  subst hn
  have hlt : ∀ j k, (R j).v.ownBlock = some k → k < w.heap.size := fun j k hk => ((h.row j).1.lt k hk).2
  have hne : ∀ j, j ≠ i → (R j).v.ownBlock ≠ some g := by
    intro j hj e
    rcases hat with h1 | h1
    · rcases h.apart j i hj with h2 | h2
      · rw [h2] at e; cases e
      · exact h2 (by rw [e, h1])
    · have := hlt j g e; omega
  have hS : ∀ b, Sof w base R b → Sof w' base (upd R i ⟨(R i).l ++ m, .slice (some ⟨g, 0, none⟩) ((R i).l.length + m.length) cap, glueV (R i).l.length (R i).V W⟩) b := by
    intro b hb
    refine ⟨hb.1, Nat.lt_of_lt_of_le hb.2.1 hgrow.size, fun j => ?_⟩
    by_cases e : j = i
    · subst e
      rw [upd_same]
      simp only [Value.ownBlock, ne_eq, Option.some.injEq]
      intro e
      rcases hat with h1 | h1
      · exact hb.2.2 j (by rw [h1, e])
      · have := hb.2.1; omega
    · rw [upd_far _ _ e]; exact hb.2.2 j
  have hc : ∀ b o, Sof w base R b → w'.cell? ⟨b, o, none⟩ = w.cell? ⟨b, o, none⟩ := fun b o hb => hgrow.cell_far _ hb.2.1 (hb.2.2 i)
  refine ⟨fun j => ?_, fun j k hjk => ?_⟩
  · by_cases e : j = i
    · subst e
      rw [upd_same]
      refine ⟨?_, fun a p hp => ?_⟩
      · simp only [List.length_append]
        rw [← news_glue]; exact hown
      · simp only at hp ⊢
        by_cases ha : a < (R j).l.length
        · rw [List.getElem?_append_left ha] at hp
          have : glueV (R j).l.length (R j).V W a = (R j).V a := by simp [glueV, ha]
          rw [this]
          exact ((h.row j).2 a p hp).mono hc hS
        · rw [List.getElem?_append_right (by omega)] at hp
          have : glueV (R j).l.length (R j).V W a = W (a - (R j).l.length) := by simp [glueV, ha]
          rw [this]
          exact (hm _ p hp).mono hc hS
    · rw [upd_far _ _ e]
      refine ⟨(h.row j).1.kept hgrow (h.apart j i e), fun a p hp => ((h.row j).2 a p hp).mono hc hS⟩
  · by_cases e : j = i
    · subst e
      rw [upd_same, upd_far _ _ (fun e => hjk e.symm)]
      exact .inr fun e => hne k (fun e => hjk e.symm) (by rw [← e]; rfl)
    · rw [upd_far _ _ e]
      by_cases e' : k = i
      · subst e'
        rw [upd_same]
        exact .inr fun e2 => hne j e (by rw [e2]; rfl)
      · rw [upd_far _ _ e']; exact h.apart j k hjk
theorem Stock.slice {w : World} {base : Nat} {R : Nat → Rw} (h : Stock w base R) (i : Nat) : ∃ (oa : Option Addr) (cap g : Nat), (R i).v = .slice oa (R i).l.length cap ∧ (R i).l.length ≤ cap ∧ cap ≤ maxLen ∧ (0 < (R i).l.length → oa = some ⟨g, 0, none⟩ ∧ base ≤ g ∧ g < w.heap.size) := row_slice (h.row i).1
theorem Stock.at {w : World} {base : Nat} {R : Nat → Rw} (h : Stock w base R) (i : Nat) {g n cap k : Nat} {p : Pr} (hv : (R i).v = .slice (some ⟨g, 0, none⟩) n cap) (hp : (R i).l[k]? = some p) :
    (w.cell? ⟨g, k * 5, none⟩ = some (.int .i64 p.op) ∧ w.cell? ⟨g, k * 5 + 1, none⟩ = some (.string p.text) ∧ w.cell? ⟨g, k * 5 + 2, none⟩ = some (.int .i64 p.n) ∧ w.cell? ⟨g, k * 5 + 3, none⟩ = some (.complex .f64 p.x p.y) ∧ w.cell? ⟨g, k * 5 + 4, none⟩ = some ((R i).V k)) ∧
      Lies 5 pc (Sof w base R) w p ((R i).V k) := by
  have h1 := (h.row i).1
  have hn : n = (R i).l.length := by
    obtain ⟨oa, cap', g', e, _⟩ := row_slice h1
    rw [hv] at e; cases e; rfl
  subst hn
  rw [hv] at h1
  have hk := some_pos hp
  have c : ∀ j u, (pc p ((R i).V k))[j]? = some u → w.cell? ⟨g, k * 5 + j, none⟩ = some u := by
    intro j u hu
    have hj : j < 5 := by have := (List.getElem?_eq_some_iff.1 hu).1; rwa [pc_len] at this
    rw [h1.cellAt (k * 5 + j) (by omega), news_get _ _ _ _ _ hp _ hj, Nat.zero_add, hu]
  exact ⟨⟨c 0 _ rfl, c 1 _ rfl, c 2 _ rfl, c 3 _ rfl, c 4 _ rfl⟩, (h.row i).2 k p hp⟩
end Go.Proofs.YthbjgfennclidaaGreat
