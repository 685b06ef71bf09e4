/- Joined: OpenK, Tree, RegD, LCM. -/
import Derived.Test.YtjkcooakddlppaaGreatJ05
import Derived.Test.YtjkcooakddlppaaGreatJ14
import Derived.Test.YtjkcooakddlppaaGreatJ13
import Derived.Deep.Slices
import Derived.Test.YtjkcooakddlppaaGreatJ10
import Derived.Deep.RegionHeld
import Derived.Test.YtjkcooakddlppaaGreatJ09
/- What the arguments of the laws read as: what is known. -/
namespace Go.Proofs.YtjkcooakddlppaaGreat
set_option linter.unusedVariables false
set_option linter.unusedSimpArgs false
set_option maxRecDepth 100000
open Go.ChangeShapes Go.WideShapes Go.ChangeAt Go.RowKit Go.Deep
section
variable {H : Type} {enc : TypeId × Value → H} {w : World} {base : Nat} {spare : Nat → Bool} {held : Bool} {fuel : Nat} {cs : List Value} {x : DataW H × List MemPlace}
set_option maxRecDepth 100000 in
theorem trod_texts (h : DataW.trod enc Tryz.prog w base spare held fuel 113 cs = some x) : ∃ (l : List ByteArray) (v : Value), cs = [v] ∧ TxW w l v := by
  rcases open_slice1 Tryz.underlying113 (by kernel_rfl) h with ⟨rfl, _⟩ | ⟨a, len, cap, m, n, V, D, Pl, rfl, _, hl, hm, hmm, _, hx⟩
  · exact ⟨[], _, rfl, none, 0, 0, 0, rfl, Nat.le_refl _, by decide, fun h => absurd h (by simp), fun k s hk => by simp at hk, fun s hs => by simp at hs⟩
  · have hlm : len ≤ m := by rw [hmm]; split <;> omega
    have key : ∀ i, i < len → ∃ s : ByteArray, V i = .string s ∧ s.size ≤ maxLen := by
      intro i hi
      obtain ⟨s, k, _, z⟩ := DataW.trod_string Tryz.underlying9 (hx i (by omega)).2
      simp only [List.cons.injEq, and_true] at k
      exact ⟨s, k, z⟩
    classical
    let S : Nat → ByteArray := fun i => if h : i < len then (key i h).choose else ⟨#[]⟩
    have hS : ∀ i, i < len → V i = .string (S i) ∧ (S i).size ≤ maxLen := by
      intro i hi
      simp only [S, dif_pos hi]
      exact (key i hi).choose_spec
    have hlk : ((List.range len).map S).length = len := by simp
    have hs : 0 < len → a.spot = none ∧ a.block < w.heap.size := by
      intro h0
      have h1 := (hx 0 (by omega)).1
      have e : a.add 0 = a := by simp [Addr.add]
      rw [e] at h1
      exact ⟨World.cell?_spot h1, World.block_lt_of_cell? w _ h1⟩
    refine ⟨(List.range len).map S, _, rfl, some a, cap, a.block, a.off, by rw [hlk], by rw [hlk]; exact hl, hm, fun h => ?_, fun k s hk => ?_, fun s hs => ?_⟩
    · rw [hlk] at h
      exact ⟨congrArg some (addr_lit (hs h).1), (hs h).2⟩
    · obtain ⟨hk', rfl⟩ := map_range S hk
      rw [← addr_at (hs (by omega)).1, (hx k (by omega)).1, (hS k hk').1]
    · obtain ⟨k, hk, e⟩ := List.mem_iff_getElem.1 hs
      obtain ⟨hk, rfl⟩ := map_range S (by rw [List.getElem?_eq_getElem hk, e])
      exact (hS k hk).2
set_option maxRecDepth 100000 in
theorem trod_frag (h : DataW.trod enc Tryz.prog w base spare held fuel 115 cs = some x) : ∃ (f : Fr) (u : Value), cs = fc f u ∧ TxW w f.ids u := by
  obtain ⟨xs, n, hn, hx, hl, hxl, hf⟩ := DataW.trod_struct Tryz.underlying115 h
  have hl' : cs.length = 9 := hl.trans (by kernel_rfl)
  have hxl' : xs.length = 2 := hxl.trans (by kernel_rfl)
  have h0 : DataW.trod enc Tryz.prog w base spare held n 113 ((cs.drop 0).take (Tryz.prog.cellsOf 113)) = xs[0]? := hf 0 _ rfl
  have h1 : DataW.trod enc Tryz.prog w base spare held n 28 ((cs.drop 1).take (Tryz.prog.cellsOf 28)) = xs[1]? := hf 1 _ rfl
  rw [show Tryz.prog.cellsOf 113 = 1 by kernel_rfl, List.getElem?_eq_getElem (by omega)] at h0
  rw [show Tryz.prog.cellsOf 28 = 8 by kernel_rfl, List.getElem?_eq_getElem (by omega)] at h1
  match cs, hl' with
  | [c0, c1, c2, c3, c4, c5, c6, c7, c8], _ =>
    obtain ⟨l, v, e, ht⟩ := trod_texts h0
    obtain ⟨A, e'⟩ := trod_vec h1
    simp at e e'
    obtain ⟨e1, e2, e3, e4, e5, e6, e7, e8⟩ := e'
    subst e e1 e2 e3 e4 e5 e6 e7 e8
    exact ⟨⟨l, A⟩, _, rfl, ht⟩
set_option maxRecDepth 100000 in
theorem trod_frags (h : DataW.trod enc Tryz.prog w base spare held fuel 29 cs = some x) : ∃ (l : List Fr) (v : Value), cs = [v] ∧ FrW w l v := by
  rcases open_slice Tryz.underlying29 h with ⟨rfl, _⟩ | ⟨a, len, cap, m, n, D, Pl, rfl, _, hl, hm, hmm, _, hx⟩
  · exact ⟨[], _, rfl, fun _ => .nilFunc, none, 0, 0, 0, rfl, Nat.le_refl _, by decide, fun h => absurd h (by simp), fun k f hk => by simp at hk, fun k f hk => by simp at hk⟩
  · have hlm : len ≤ m := by rw [hmm]; split <;> omega
    have hC : Tryz.prog.cellsOf 115 = 9 := by kernel_rfl
    rw [hC] at hx
    have key : ∀ i, i < len → ∃ (f : Fr) (u : Value), (∀ j z, (fc f u)[j]? = some z → w.cell? (a.add (i * 9 + j)) = some z) ∧ TxW w f.ids u := by
      intro i hi
      obtain ⟨cs', h2, h3⟩ := hx i (by omega)
      obtain ⟨_, hcl, hat⟩ := World.cells?_some h2
      obtain ⟨f, u, rfl, ht⟩ := trod_frag h3
      refine ⟨f, u, fun j z hz => ?_, ht⟩
      have hj : j < 9 := (List.getElem?_eq_some_iff.1 hz).1
      rw [← Go.Deep.add_add, hat j hj, hz]
    classical
    let F : Nat → Fr := fun i => if h : i < len then (key i h).choose else ⟨[], zeroV⟩
    let U : Nat → Value := fun i => if h : i < len then (key i h).choose_spec.choose else .nilFunc
    have hFU : ∀ i, i < len → (∀ j z, (fc (F i) (U i))[j]? = some z → w.cell? (a.add (i * 9 + j)) = some z) ∧ TxW w (F i).ids (U i) := by
      intro i hi
      have := (key i hi).choose_spec.choose_spec
      simp only [F, U, dif_pos hi]
      exact this
    have hlk : ((List.range len).map F).length = len := by simp
    have hs : 0 < len → a.spot = none ∧ a.block < w.heap.size := by
      intro h0
      have h1 := (hFU 0 h0).1 0 _ rfl
      have e : a.add (0 * 9 + 0) = a := by simp [Addr.add]
      rw [e] at h1
      exact ⟨World.cell?_spot h1, World.block_lt_of_cell? w _ h1⟩
    refine ⟨(List.range len).map F, _, rfl, U, some a, cap, a.block, a.off, by rw [hlk], by rw [hlk]; exact hl, hm, fun h => ?_, fun k f hk j z hz => ?_, fun k f hk => ?_⟩
    · rw [hlk] at h
      exact ⟨congrArg some (addr_lit (hs h).1), (hs h).2⟩
    · obtain ⟨hk', rfl⟩ := map_range F hk
      have h1 := (hFU k hk').1 j z hz
      rw [addr_at (hs (by omega)).1] at h1
      rw [Nat.add_assoc]; exact h1
    · obtain ⟨hk', rfl⟩ := map_range F hk
      exact (hFU k hk').2
end
end Go.Proofs.YtjkcooakddlppaaGreat
/- An argument that is a Tree: opened to its parts. -/
namespace Go.Proofs.YtjkcooakddlppaaGreat
set_option linter.unusedVariables false
set_option linter.unusedSimpArgs false
set_option maxRecDepth 100000
open Go.ChangeShapes Go.WideShapes Go.ChangeAt Go.RowKit Go.Deep
section
variable {H : Type} {enc : TypeId × Value → H} {w : World} {base : Nat} {spare : Nat → Bool} {held : Bool}
set_option maxRecDepth 100000 in
theorem trod_kids (fuel : Nat) (ih : ∀ n, n < fuel → ∀ (cs : List Value) (x : DataW H × List MemPlace), DataW.trod enc Tryz.prog w base spare held n 25 cs = some x → ∃ p v, cs = tc p v ∧ Lies 6 tc (fun b => b < w.heap.size) w p v)
    {cs : List Value} {x : DataW H × List MemPlace} (h : DataW.trod enc Tryz.prog w base spare held fuel 23 cs = some x) :
    ∃ (kids : List Pr) (v : Value), cs = [v] ∧ ∀ op (t : ByteArray) n y z, t.size ≤ maxLen → Lies 6 tc (fun b => b < w.heap.size) w (.node op t n y z kids) v := by
  rcases DataW.trod_slice Tryz.underlying23 h with ⟨rfl, _⟩ | ⟨a, len, cap, elems, rest, n, hf, rfl, _, hb, hl, hm, hlen, hel, _, _⟩
  · exact ⟨[], _, rfl, fun op t n y z ht => .mk op t n y z [] none 0 0 0 (fun _ => .nilFunc) ht (Nat.le_refl _) (Nat.zero_le _) (fun h => absurd h (Nat.lt_irrefl _)) (fun i p h => by simp at h) (fun i p h => by simp at h)⟩
  · have hC : Tryz.prog.cellsOf 25 = 6 := by kernel_rfl
    rw [hC] at hel
    have key : ∀ i, i < len → ∃ p v, (∀ j u, (tc p v)[j]? = some u → w.cell? (a.add (i * 6 + j)) = some u) ∧ Lies 6 tc (fun b => b < w.heap.size) w p v := by
      intro i hi
      have h1 := hel i hi
      rw [List.getElem?_eq_getElem (by omega)] at h1
      obtain ⟨cs', h2, h3⟩ := Option.bind_eq_some_iff.1 h1
      obtain ⟨_, hcl, hat⟩ := World.cells?_some h2
      obtain ⟨p, v, rfl, hL⟩ := ih n (by omega) cs' _ h3
      refine ⟨p, v, fun j u hu => ?_, hL⟩
      have hj : j < 6 := by
        have := (List.getElem?_eq_some_iff.1 hu).1; simpa [tc] using this
      rw [← Go.Deep.add_add, hat j hj, hu]
    classical
    let P : Nat → Pr := fun i => if h : i < len then (key i h).choose else .node 0 ⟨#[]⟩ 0 0 0 []
    let V : Nat → Value := fun i => if h : i < len then (key i h).choose_spec.choose else .nilFunc
    have hPV : ∀ i, i < len → (∀ j u, (tc (P i) (V i))[j]? = some u → w.cell? (a.add (i * 6 + j)) = some u) ∧ Lies 6 tc (fun b => b < w.heap.size) w (P i) (V i) := by
      intro i hi
      have := (key i hi).choose_spec.choose_spec
      simp only [P, V, dif_pos hi]
      exact this
    have hk : ∀ (i : Nat) (q : Pr), ((List.range len).map P)[i]? = some q → i < len ∧ q = P i := by
      intro i q hq
      rw [List.getElem?_map] at hq
      cases h : (List.range len)[i]? with
      | none => rw [h] at hq; cases hq
      | some k =>
        rw [h] at hq
        obtain ⟨h1, h2⟩ := List.getElem?_eq_some_iff.1 h
        simp at h1 h2 hq
        subst h2
        exact ⟨h1, hq.symm⟩
    have hlk : ((List.range len).map P).length = len := by simp
    have hs : 0 < len → a.spot = none ∧ a.block < w.heap.size := by
      intro h0
      have h1 := (hPV 0 h0).1 0 _ rfl
      have e : a.add (0 * 6 + 0) = a := by simp [Addr.add]
      rw [e] at h1
      exact ⟨World.cell?_spot h1, World.block_lt_of_cell? w _ h1⟩
    refine ⟨(List.range len).map P, _, rfl, fun op t n y z ht => ?_⟩
    have := Lies.mk (sz := 6) (c := tc) (S := fun b => b < w.heap.size) (w := w) op t n y z ((List.range len).map P) (some a) cap a.block a.off V ht (by rw [hlk]; exact hl) hm
      (fun h => by
        rw [hlk] at h
        refine ⟨?_, (hs h).2⟩
        have h1 := (hs h).1
        obtain ⟨b, o, s⟩ := a
        simp only at h1; subst h1; rfl)
      (fun i p hp j u hu => by
        obtain ⟨hi, rfl⟩ := hk i p hp
        have h1 := (hPV i hi).1 j u hu
        rw [addr_at (hs (by omega)).1] at h1
        rw [Nat.add_assoc]; exact h1)
      (fun i p hp => by
        obtain ⟨hi, rfl⟩ := hk i p hp
        exact (hPV i hi).2)
    rw [hlk] at this
    exact this
set_option maxRecDepth 100000 in
theorem trod_tree (fuel : Nat) : ∀ (cs : List Value) (x : DataW H × List MemPlace), DataW.trod enc Tryz.prog w base spare held fuel 25 cs = some x → ∃ p v, cs = tc p v ∧ Lies 6 tc (fun b => b < w.heap.size) w p v := by
  induction fuel using Nat.strongRecOn with
  | ind fuel ih =>
    intro cs x h
    obtain ⟨xs, n, hn, hx, hl, hxl, hf⟩ := DataW.trod_struct Tryz.underlying25 h
    have hl' : cs.length = 6 := hl.trans (by kernel_rfl)
    have F := fun i f hi => field_at (P := Tryz.prog) (by kernel_rfl) (by rw [hl']; rfl) hxl hf i f hi
    match cs, hl' with
    | [c0, c1, c2, c3, c4, c5], _ =>
      obtain ⟨_, _, e0, t0⟩ := F 0 _ rfl
      obtain ⟨_, _, e1, t1⟩ := F 1 _ rfl
      obtain ⟨_, _, e2, t2⟩ := F 2 _ rfl
      obtain ⟨_, _, e3, t3⟩ := F 3 _ rfl
      obtain ⟨_, _, e4, t4⟩ := F 4 _ rfl
      obtain ⟨_, _, e5, t5⟩ := F 5 _ rfl
      obtain ⟨s0, k0, _, z0⟩ := DataW.trod_int Tryz.underlying3 t0
      obtain ⟨s1, k1, _, z1⟩ := DataW.trod_string Tryz.underlying9 t1
      obtain ⟨s2, k2, _, z2⟩ := DataW.trod_int Tryz.underlying3 t2
      obtain ⟨s3, k3⟩ := trod_float Tryz.underlying22 t3
      obtain ⟨s4, k4⟩ := trod_float Tryz.underlying22 t4
      obtain ⟨kids, v, k5, hL⟩ := trod_kids n (fun n' hn' => ih n' (by omega)) t5
      simp only [List.cons.injEq, and_true] at k0 k1 k2 k3 k4 k5
      simp at e0 e1 e2 e3 e4 e5
      subst e0 e1 e2 e3 e4 e5 k0 k1 k2 k3 k4 k5
      exact ⟨.node s0 s1 s2 s3 s4 kids, _, rfl, hL _ _ _ _ _ z1⟩
end
end Go.Proofs.YtjkcooakddlppaaGreat
/- Drawn regions whose last operations store where others loaded: the condition on the world is asked for behind those operations alone that do not wait for all loads. No walk. -/
namespace Go.Proofs.YtjkcooakddlppaaGreat
set_option linter.unusedVariables false
set_option linter.unusedSimpArgs false
set_option maxRecDepth 100000
open Go
section
variable {P : Program} {ops : Array Oper} {Q : Exit → Act → World → Prop} {md : Region.Mode} {S : World → Prop} {D : Nat → Bool}
def late (P : Program) (md : Region.Mode) (ops : Array Oper) (Q : Exit → Act → World → Prop) (S : World → Prop) (D : Nat → Bool) (fuel : Nat) (listed : Array Bool) (a : Act) (w : World) : Prop :=
  match fuel with
  | 0 => Region.ready md ops listed = [] ∧ Q .normal a w
  | n + 1 => (Region.ready md ops listed = [] → Q .normal a w) ∧ ∀ i ∈ Region.ready md ops listed,
      wpOp P ops Q i (fun a' w' => (D i = false → S w') ∧ late P md ops Q S D n (listed.setIfInBounds i true) a' w') a w
def waitB (md : Region.Mode) (ops : Array Oper) (D : Nat → Bool) (i : Nat) : Bool :=
  (List.range ops.size).all fun j => !D j || (match ops[j]? with | some oj => oj.after.any (fun e => Region.binds md e && e.on == i) | none => true)
theorem wait_of {i j : Nat} {oj : Oper} {l : Array Bool} (h : waitB md ops D i = true) (hj : j ∈ Region.ready md ops l) (hoj : ops[j]? = some oj) (hi : l.getD i true = false) : D j = false := by
  cases hd : D j with
  | false => rfl
  | true =>
    exfalso
    have h1 := List.all_eq_true.1 h j (List.mem_range.2 (Array.getElem?_eq_some_iff.1 hoj).1)
    simp only [hd, hoj, Bool.not_true, Bool.false_or] at h1
    obtain ⟨e, he, hb⟩ := Array.any_eq_true'.1 h1
    simp only [Bool.and_eq_true, beq_iff_eq] at hb
    obtain ⟨_, o, ho, hall⟩ := mem_ready.1 hj
    rw [hoj] at ho
    cases ho
    have h2 := hall e he hb.1
    rw [hb.2] at h2
    rcases Nat.lt_or_ge i l.size with hl | hl
    · simp [hl] at hi h2; rw [hi] at h2; cases h2
    · simp [Array.getElem?_eq_none hl] at hi
end
end Go.Proofs.YtjkcooakddlppaaGreat
/- Lists of items, searched and merged as the code does it: plain mathematics. No walk. -/
namespace Go.Proofs.YtjkcooakddlppaaGreat
set_option linter.unusedVariables false
set_option linter.unusedSimpArgs false
set_option maxRecDepth 100000
open Go.RowKit
/-! ### Where an Id stands -/
def posI (l : List Itm) (id : ByteArray) : Nat := l.countP fun i => lsB i.id id
def hitI (l : List Itm) (id : ByteArray) : Bool := match l[posI l id]? with
  | some i => i.id.toList == id.toList
  | none => false
def toI (l : List Itm) (id : ByteArray) : Nat := if hitI l id = true then posI l id + 1 else posI l id
theorem pos_le (l : List Itm) (id : ByteArray) : posI l id ≤ l.length := List.countP_le_length
theorem pos_none {l : List Itm} {id : ByteArray} (h : ∀ i ∈ l, lsB i.id id = false) : posI l id = 0 := by
  unfold posI
  rw [List.countP_eq_zero]
  intro i hi; rw [h i hi]; simp
theorem pos_cons {a : Itm} {l : List Itm} {id : ByteArray} (h : RiseI (a :: l)) : posI (a :: l) id = if lsB a.id id = true then posI l id + 1 else 0 := by
  split
  · rename_i h1; unfold posI; rw [List.countP_cons_of_pos (p := fun i : Itm => lsB i.id id) h1]
  · rename_i h1
    refine pos_none fun i hi => ?_
    rw [riseI_cons] at h
    rcases List.mem_cons.1 hi with e | hi
    · subst e; simpa using h1
    · cases h2 : lsB i.id id with
      | false => rfl
      | true => exact absurd (ls_trans (h.1 i hi) h2) h1
theorem pos_iff {l : List Itm} {id : ByteArray} (h : RiseI l) : ∀ {j : Nat} {i : Itm}, l[j]? = some i → lsB i.id id = decide (j < posI l id) := by
  induction l with
  | nil => intro j i hj; simp at hj
  | cons a l ih =>
    intro j i hj
    rw [pos_cons h]
    have h' := riseI_cons.1 h
    cases j with
    | zero =>
      simp at hj; subst hj
      cases e : lsB a.id id <;> simp
    | succ j =>
      simp at hj
      rw [ih h'.2 hj]
      cases e : lsB a.id id with
      | true => simp
      | false =>
        have : posI l id = 0 := by
          refine pos_none fun i hi => ?_
          cases h2 : lsB i.id id with
          | false => rfl
          | true => rw [ls_trans (h'.1 i hi) h2] at e; cases e
        rw [this]; simp
theorem take_pos {l : List Itm} {id : ByteArray} (h : RiseI l) : l.take (posI l id) = l.filter fun i => lsB i.id id := by
  induction l with
  | nil => rfl
  | cons a l ih =>
    have h' := riseI_cons.1 h
    rw [pos_cons h]
    cases e : lsB a.id id with
    | true => simp [e, ih h'.2]
    | false =>
      have : (a :: l).filter (fun i => lsB i.id id) = [] := by
        rw [List.filter_eq_nil_iff]
        intro i hi h2
        rcases List.mem_cons.1 hi with q | hi
        · subst q; rw [e] at h2; cases h2
        · rw [ls_trans (h'.1 i hi) h2] at e; cases e
      rw [this]; simp
theorem hit_cons {a : Itm} {l : List Itm} {id : ByteArray} (h : RiseI (a :: l)) : hitI (a :: l) id = if lsB a.id id = true then hitI l id else (a.id.toList == id.toList) := by
  unfold hitI
  rw [pos_cons h]
  cases e : lsB a.id id with
  | true => simp only [if_true, List.getElem?_cons_succ]
  | false => simp only [Bool.false_eq_true, if_false, List.getElem?_cons_zero]
theorem drop_to {l : List Itm} {id : ByteArray} (h : RiseI l) : l.drop (toI l id) = l.filter fun i => gtB i.id id := by
  induction l with
  | nil => simp [toI]
  | cons a l ih =>
    have h' := riseI_cons.1 h
    have ih := ih h'.2
    unfold toI at *
    rw [hit_cons h, pos_cons h]
    cases e : lsB a.id id with
    | true =>
      simp only [if_true]
      have e2 : gtB a.id id = false := by rw [gt_eq]; exact ls_asym e
      rw [List.filter_cons_of_neg (by simp [e2]), ← ih]
      split <;> rfl
    | false =>
      have hall : ∀ i ∈ l, gtB i.id id = true := fun i hi => by
        rw [gt_eq]
        rcases ls_tri a.id id with h1 | h1 | h1
        · rw [h1] at e; cases e
        · rw [← h1]; exact h'.1 i hi
        · exact ls_trans h1 (h'.1 i hi)
      simp only [if_false, Bool.false_eq_true]
      cases e2 : (a.id.toList == id.toList) with
      | true =>
        have e3 : gtB a.id id = false := by rw [gt_eq, tl_eq.1 e2]; exact ls_irr _
        rw [List.filter_cons_of_neg (by simp [e3])]
        simp only [if_true, Nat.zero_add, List.drop_succ_cons, List.drop_zero]
        rw [List.filter_eq_self.2 hall]
      | false =>
        have e3 : gtB a.id id = true := by
          rw [gt_eq]
          rcases ls_tri a.id id with h1 | h1 | h1
          · rw [h1] at e; cases e
          · exact absurd h1 (tl_ne.1 e2)
          · exact h1
        rw [List.filter_cons_of_pos (by simp [e3]), List.filter_eq_self.2 hall]
        simp
theorem putI_span {l : List Itm} {x : Itm} (h : RiseI l) : l.take (posI l x.id) ++ ([x] ++ l.drop (toI l x.id)) = putI l x := by
  unfold putI
  rw [take_pos h, drop_to h, List.append_assoc]
theorem dropI_span {l : List Itm} {id : ByteArray} (h : RiseI l) : l.take (posI l id) ++ l.drop (toI l id) = l.filter (neB id) := by
  rw [take_pos h, drop_to h]
  induction l with
  | nil => rfl
  | cons a l ih =>
    have h' := riseI_cons.1 h
    have ih := ih h'.2
    rcases ls_tri a.id id with h1 | h1 | h1
    · have e2 : gtB a.id id = false := by rw [gt_eq]; exact ls_asym h1
      have e3 : neB id a = true := by unfold neB; rw [Bool.not_eq_true', tl_ne]; exact ls_ne h1
      rw [List.filter_cons_of_pos (by simp [h1]), List.filter_cons_of_neg (by simp [e2]), List.filter_cons_of_pos (by simp [e3]), List.cons_append, ih]
    · have e1 : lsB a.id id = false := by rw [h1]; exact ls_irr _
      have e2 : gtB a.id id = false := by rw [gt_eq, h1]; exact ls_irr _
      have e3 : neB id a = false := by unfold neB; rw [Bool.not_eq_false', tl_eq]; exact h1
      rw [List.filter_cons_of_neg (by simp [e1]), List.filter_cons_of_neg (by simp [e2]), List.filter_cons_of_neg (by simp [e3]), ih]
    · have e1 : lsB a.id id = false := ls_asym h1
      have e2 : gtB a.id id = true := by rw [gt_eq]; exact h1
      have e3 : neB id a = true := by unfold neB; rw [Bool.not_eq_true', tl_ne]; exact fun q => ls_ne h1 q.symm
      have hn : l.filter (fun i => lsB i.id id) = [] := by
        rw [List.filter_eq_nil_iff]
        intro i hi h2
        rw [ls_asym (ls_trans h1 (h'.1 i hi))] at h2; cases h2
      rw [hn] at ih
      rw [List.filter_cons_of_neg (by simp [e1]), List.filter_cons_of_pos (by simp [e2]), List.filter_cons_of_pos (by simp [e3]), hn, List.nil_append, ← ih, List.nil_append]
theorem getI_hit {l : List Itm} {id : ByteArray} (h : RiseI l) (hh : hitI l id = true) : ∃ i, l[posI l id]? = some i ∧ getI l id = (i, true) := by
  unfold hitI at hh
  cases e : l[posI l id]? with
  | none => rw [e] at hh; cases hh
  | some i =>
    rw [e] at hh
    exact ⟨i, rfl, get_some h (List.mem_of_getElem? e) (tl_eq.1 hh)⟩
theorem getI_miss {l : List Itm} {id : ByteArray} (h : RiseI l) (hh : hitI l id = false) : getI l id = (Itm.zero, false) := by
  refine get_none fun i hi e => ?_
  obtain ⟨j, hj, e'⟩ := List.mem_iff_getElem.1 hi
  have hj9 : l[j]? = some i := by rw [List.getElem?_eq_getElem hj, e']
  have h1 := pos_iff (id := id) h hj9
  rw [e, ls_irr] at h1
  have hge : posI l id ≤ j := by
    have := of_decide_eq_false h1.symm; omega
  by_cases hq : posI l id = j
  · unfold hitI at hh; rw [hq, hj9] at hh
    have hh' : (i.id.toList == id.toList) = false := hh
    rw [tl_eq.2 e] at hh'; cases hh'
  · obtain ⟨p, hp⟩ : ∃ p, l[posI l id]? = some p := ⟨_, List.getElem?_eq_getElem (by omega)⟩
    have h2 := pos_iff (id := id) h hp
    rw [decide_eq_false (by omega)] at h2
    have h3 : lsB p.id i.id = true := by
      have hpw := h
      unfold RiseI Rise at hpw
      rw [List.pairwise_map] at hpw
      have hp' := (List.getElem?_eq_some_iff.1 hp)
      have := List.pairwise_iff_getElem.1 hpw (posI l id) j hp'.1 hj (by omega)
      rw [hp'.2, e'] at this
      exact this
    rw [e, h2] at h3; cases h3
/-! ### Two lists merged -/
def mrgI (f : Itm → Itm → Bool) : List Itm → List Itm → List Itm
  | [], m => m
  | l, [] => l
  | x :: l, y :: m => if lsB x.id y.id = true then x :: mrgI f l (y :: m) else if lsB y.id x.id = true then y :: mrgI f (x :: l) m else (if f y x = true then y else x) :: mrgI f l m
  termination_by l m => l.length + m.length
theorem mrg_nil_l (f : Itm → Itm → Bool) (m : List Itm) : mrgI f [] m = m := by rw [mrgI]
theorem mrg_nil_r (f : Itm → Itm → Bool) (l : List Itm) : mrgI f l [] = l := by cases l <;> rw [mrgI]; simp
theorem mrg_cons (f : Itm → Itm → Bool) (x y : Itm) (l m : List Itm) : mrgI f (x :: l) (y :: m) = if lsB x.id y.id = true then x :: mrgI f l (y :: m) else if lsB y.id x.id = true then y :: mrgI f (x :: l) m else (if f y x = true then y else x) :: mrgI f l m := by rw [mrgI]
theorem riseI_ext {l m : List Itm} (hl : RiseI l) (hm : RiseI m) (h : ∀ i, i ∈ l ↔ i ∈ m) : l = m := by
  induction l generalizing m with
  | nil =>
    cases m with
    | nil => rfl
    | cons b m => have := (h b).2 (by simp); simp at this
  | cons a l ih =>
    cases m with
    | nil => have := (h a).1 (by simp); simp at this
    | cons b m =>
      rw [riseI_cons] at hl hm
      have e : a = b := by
        rcases List.mem_cons.1 ((h a).1 (by simp)) with e | ha
        · exact e
        rcases List.mem_cons.1 ((h b).2 (by simp)) with e | hb
        · exact e.symm
        have := ls_trans (hl.1 b hb) (hm.1 a ha)
        rw [ls_irr] at this; cases this
      subst e
      congr 1
      refine ih hl.2 hm.2 fun i => ⟨fun hi => ?_, fun hi => ?_⟩
      · rcases List.mem_cons.1 ((h i).1 (by simp [hi])) with e | h'
        · subst e; have := hl.1 i hi; rw [ls_irr] at this; cases this
        · exact h'
      · rcases List.mem_cons.1 ((h i).2 (by simp [hi])) with e | h'
        · subst e; have := hm.1 i hi; rw [ls_irr] at this; cases this
        · exact h'
theorem get_iff {l : List Itm} {i : Itm} (h : RiseI l) : i ∈ l ↔ getI l i.id = (i, true) := by
  constructor
  · intro hi; exact get_some h hi rfl
  · intro hg
    rcases get_cases l i.id with ⟨j, hj, _, e⟩ | ⟨_, e⟩
    · rw [e] at hg; cases hg; exact hj
    · rw [e] at hg; exact absurd (congrArg Prod.snd hg) (by simp)
theorem riseI_get {l m : List Itm} (hl : RiseI l) (hm : RiseI m) (h : ∀ id, getI l id = getI m id) : l = m :=
  riseI_ext hl hm fun i => by rw [get_iff hl, get_iff hm, h]
theorem getI_cons (a : Itm) (l : List Itm) (id : ByteArray) : getI (a :: l) id = if a.id = id then (a, true) else getI l id := by
  unfold getI
  rw [List.find?_cons]
  cases h : (a.id.toList == id.toList) with
  | true => rw [if_pos (tl_eq.1 h)]
  | false => rw [if_neg (tl_ne.1 h)]
theorem mrg_mem {f : Itm → Itm → Bool} : ∀ {n : Nat} {l m : List Itm} {i : Itm}, l.length + m.length ≤ n → i ∈ mrgI f l m → i ∈ l ∨ i ∈ m := by
  intro n
  induction n with
  | zero =>
    intro l m i hn hi
    have : l = [] := List.length_eq_zero_iff.1 (by omega)
    subst this; rw [mrg_nil_l] at hi; exact .inr hi
  | succ n ih =>
    intro l m i hn hi
    cases l with
    | nil => rw [mrg_nil_l] at hi; exact .inr hi
    | cons x l =>
      cases m with
      | nil => rw [mrg_nil_r] at hi; exact .inl hi
      | cons y m =>
        simp only [List.length_cons] at hn
        rw [mrg_cons] at hi
        split at hi
        · rcases List.mem_cons.1 hi with e | hi
          · subst e; exact .inl (by simp)
          · rcases ih (by simp only [List.length_cons]; omega) hi with h | h
            · exact .inl (by simp [h])
            · exact .inr h
        · split at hi
          · rcases List.mem_cons.1 hi with e | hi
            · subst e; exact .inr (by simp)
            · rcases ih (by simp only [List.length_cons]; omega) hi with h | h
              · exact .inl h
              · exact .inr (by simp [h])
          · rcases List.mem_cons.1 hi with e | hi
            · subst e; split
              · exact .inr (by simp)
              · exact .inl (by simp)
            · rcases ih (by omega) hi with h | h
              · exact .inl (by simp [h])
              · exact .inr (by simp [h])
theorem mrg_rise {f : Itm → Itm → Bool} : ∀ {n : Nat} {l m : List Itm}, l.length + m.length ≤ n → RiseI l → RiseI m → RiseI (mrgI f l m) := by
  intro n
  induction n with
  | zero =>
    intro l m hn hl hm
    have : l = [] := List.length_eq_zero_iff.1 (by omega)
    subst this; rw [mrg_nil_l]; exact hm
  | succ n ih =>
    intro l m hn hl hm
    cases l with
    | nil => rw [mrg_nil_l]; exact hm
    | cons x l =>
      cases m with
      | nil => rw [mrg_nil_r]; exact hl
      | cons y m =>
        simp only [List.length_cons] at hn
        have hl' := riseI_cons.1 hl
        have hm' := riseI_cons.1 hm
        rw [mrg_cons]
        split
        · rename_i h1
          refine riseI_cons.2 ⟨fun i hi => ?_, ih (by simp only [List.length_cons]; omega) hl'.2 hm⟩
          rcases mrg_mem (Nat.le_refl _) hi with h | h
          · exact hl'.1 i h
          · rcases List.mem_cons.1 h with e | h
            · subst e; exact h1
            · exact ls_trans h1 (hm'.1 i h)
        · rename_i h1
          split
          · rename_i h2
            refine riseI_cons.2 ⟨fun i hi => ?_, ih (by simp only [List.length_cons]; omega) hl hm'.2⟩
            rcases mrg_mem (Nat.le_refl _) hi with h | h
            · rcases List.mem_cons.1 h with e | h
              · subst e; exact h2
              · exact ls_trans h2 (hl'.1 i h)
            · exact hm'.1 i h
          · rename_i h2
            have e : x.id = y.id := by
              rcases ls_tri x.id y.id with q | q | q
              · exact absurd q h1
              · exact q
              · exact absurd q h2
            refine riseI_cons.2 ⟨fun i hi => ?_, ih (by omega) hl'.2 hm'.2⟩
            have e2 : (if f y x = true then y else x).id = x.id := by split; exact e.symm; rfl
            rw [e2]
            rcases mrg_mem (Nat.le_refl _) hi with h | h
            · exact hl'.1 i h
            · rw [e]; exact hm'.1 i h
theorem get_below {x : Itm} {l : List Itm} {id : ByteArray} (h : ∀ i ∈ l, lsB x.id i.id = true) (hid : id = x.id ∨ lsB id x.id = true) : getI l id = (Itm.zero, false) := by
  refine get_none fun i hi e => ?_
  have := h i hi
  rw [e] at this
  rcases hid with q | q
  · rw [q, ls_irr] at this; cases this
  · have := ls_trans q this; rw [ls_irr] at this; cases this
theorem get_mrg {f : Itm → Itm → Bool} : ∀ {n : Nat} {l m : List Itm} (id : ByteArray), l.length + m.length ≤ n → RiseI l → RiseI m → getI (mrgI f l m) id = if (getI m id).2 = true then (if (!(getI l id).2 || f (getI m id).1 (getI l id).1) = true then ((getI m id).1, true) else getI l id) else getI l id := by
  intro n
  have nl : ∀ m : List Itm, ∀ id : ByteArray, getI m id = if (getI m id).2 = true then (if (!(getI [] id).2 || f (getI m id).1 (getI [] id).1) = true then ((getI m id).1, true) else getI [] id) else getI [] id := by
    intro m id
    rw [show getI [] id = (Itm.zero, false) from rfl]
    rcases get_cases m id with ⟨j, _, _, e⟩ | ⟨_, e⟩
    · rw [e]; simp
    · rw [e]; simp
  induction n with
  | zero =>
    intro l m id hn hl hm
    have : l = [] := List.length_eq_zero_iff.1 (by omega)
    subst this; rw [mrg_nil_l]; exact nl m id
  | succ n ih =>
    intro l m id hn hl hm
    cases l with
    | nil => rw [mrg_nil_l]; exact nl m id
    | cons x l =>
      cases m with
      | nil => rw [mrg_nil_r, show getI [] id = (Itm.zero, false) from rfl]; simp
      | cons y m =>
        simp only [List.length_cons] at hn
        have hl' := riseI_cons.1 hl
        have hm' := riseI_cons.1 hm
        rw [mrg_cons]
        split
        · rename_i h1
          rw [getI_cons, ih id (by simp only [List.length_cons]; omega) hl'.2 hm, getI_cons x l id]
          by_cases e : x.id = id
          · rw [if_pos e, if_pos e]
            have : getI (y :: m) id = (Itm.zero, false) := get_below (x := x) (fun i hi => by
              rcases List.mem_cons.1 hi with q | hi
              · rw [q]; exact h1
              · exact ls_trans h1 (hm'.1 i hi)) (.inl e.symm)
            rw [this]; simp
          · rw [if_neg e, if_neg e]
        · rename_i h1
          split
          · rename_i h2
            rw [getI_cons, ih id (by simp only [List.length_cons]; omega) hl hm'.2, getI_cons y m id]
            by_cases e : y.id = id
            · rw [if_pos e, if_pos e]
              have : getI (x :: l) id = (Itm.zero, false) := get_below (x := y) (fun i hi => by
                rcases List.mem_cons.1 hi with q | hi
                · rw [q]; exact h2
                · exact ls_trans h2 (hl'.1 i hi)) (.inl e.symm)
              rw [this]; simp
            · rw [if_neg e, if_neg e]
          · rename_i h2
            have e : x.id = y.id := by
              rcases ls_tri x.id y.id with q | q | q
              · exact absurd q h1
              · exact q
              · exact absurd q h2
            rw [getI_cons, ih id (by omega) hl'.2 hm'.2, getI_cons x l id, getI_cons y m id]
            have e2 : (if f y x = true then y else x).id = x.id := by split; exact e.symm; rfl
            rw [e2]
            by_cases q : x.id = id
            · rw [if_pos q, if_pos q, if_pos (e.symm.trans q)]
              cases hf : f y x <;> simp [hf]
            · rw [if_neg q, if_neg q, if_neg (fun h => q (e.trans h))]
theorem mrg_both {f : Itm → Itm → Bool} {l m : List Itm} (hl : RiseI l) (hm : RiseI m) : mrgI f l m = bothI f l m :=
  riseI_get (mrg_rise (Nat.le_refl _) hl hm) (both_rise m hl) fun id => by rw [get_mrg id (Nat.le_refl _) hl hm, get_both m id hl hm]
end Go.Proofs.YtjkcooakddlppaaGreat
