/- Joined: HasM, Lies, ListKM, StK. -/
import Derived.Test.YtjkcooakddlppaaGreatJ09
import Derived.Test.YtjkcooakddlppaaGreatJ07
import Derived.Test.YtjkcooakddlppaaGreatJ08
import Derived.Test.YtjkcooakddlppaaGreatJ01
import Derived.Deep.MidRow
import Derived.Laws.ResultCell
/- Which items a filter has: plain mathematics. No walk. -/
namespace Go.Proofs.YtjkcooakddlppaaGreat
set_option linter.unusedVariables false
set_option linter.unusedSimpArgs false
set_option maxRecDepth 100000
structure It where
  id : ByteArray
  kd : ByteArray
  num : Int
  ax : Nat
  ay : Nat
def begB (s t : ByteArray) : Bool := t.data.toList.isPrefixOf s.data.toList
namespace Pr
mutual
def hasB (i : It) : Pr → Bool
  | node op t n x y k =>
    if op = 1 then true
    else if op = 3 then decide (i.kd.toList = t.toList)
    else if op = 4 then begB i.id t
    else if op = 5 then decide (i.num < n)
    else if op = 6 then decide (n ≤ i.num)
    else if op = 7 then nearB i.ax i.ay x y n
    else if op = 8 then hasAll i k
    else if op = 9 then hasAny i k
    else if op = 10 then hasNot i k
    else false
def hasAll (i : It) : List Pr → Bool | [] => true | a :: l => hasB i a && hasAll i l
def hasAny (i : It) : List Pr → Bool | [] => false | a :: l => hasB i a || hasAny i l
def hasNot (i : It) : List Pr → Bool | [] => false | a :: _ => !hasB i a
end
/-! ### What is the same has the same items -/
/-! ### Made plain it has the same -/
end Pr
end Go.Proofs.YtjkcooakddlppaaGreat
/- Filters in a world: that a tree lies there. No walk. -/
namespace Go.Proofs.YtjkcooakddlppaaGreat
set_option linter.unusedVariables false
set_option linter.unusedSimpArgs false
set_option maxRecDepth 100000
open Go.RowKit
def pc (p : Pr) (v : Value) : List Value := [.int .i64 p.op, .string p.text, .int .i64 p.n, .complex .f64 p.x p.y, v]
def tc (p : Pr) (v : Value) : List Value := [.int .i64 p.op, .string p.text, .int .i64 p.n, .float .f64 p.x, .float .f64 p.y, v]
inductive Lies (sz : Nat) (c : Pr → Value → List Value) (S : Nat → Prop) (w : World) : Pr → Value → Prop where
  | mk (op : Int) (t : ByteArray) (n : Int) (x y : Nat) (kids : List Pr) (oa : Option Addr) (cap b o : Nat) (V : Nat → Value) (ht : t.size ≤ maxLen) (hl : kids.length ≤ cap) (hc : cap ≤ maxLen)
      (hn : 0 < kids.length → oa = some ⟨b, o, none⟩ ∧ S b)
      (hcell : ∀ i p, kids[i]? = some p → ∀ j u, (c p (V i))[j]? = some u → w.cell? ⟨b, o + i * sz + j, none⟩ = some u)
      (hrec : ∀ i p, kids[i]? = some p → Lies sz c S w p (V i)) : Lies sz c S w (.node op t n x y kids) (.slice oa kids.length cap)
theorem some_pos {l : List Pr} {i : Nat} {p : Pr} (h : l[i]? = some p) : i < l.length := (List.getElem?_eq_some_iff.1 h).1
theorem Lies.mono {sz : Nat} {c : Pr → Value → List Value} {S S' : Nat → Prop} {w w' : World} {p : Pr} {v : Value} (h : Lies sz c S w p v)
    (hw : ∀ b o, S b → w'.cell? ⟨b, o, none⟩ = w.cell? ⟨b, o, none⟩) (hS : ∀ b, S b → S' b) : Lies sz c S' w' p v := by
  induction h with
  | mk op t n x y kids oa cap b o V ht hl hc hn hcell hrec ih =>
    refine .mk op t n x y kids oa cap b o V ht hl hc (fun h => ⟨(hn h).1, hS _ (hn h).2⟩) (fun i p hp j u hu => ?_) fun i p hp => ih i p hp
    rw [hw _ _ (hn (by have := some_pos hp; omega)).2]
    exact hcell i p hp j u hu
abbrev LP (w : World) (p : Pr) (v : Value) : Prop := Lies 5 pc (fun b => b < w.heap.size) w p v
abbrev LT (w : World) (p : Pr) (v : Value) : Prop := Lies 6 tc (fun b => b < w.heap.size) w p v
theorem Lies.later {sz : Nat} {c : Pr → Value → List Value} {w w' : World} {p : Pr} {v : Value} {B : Nat} (h : Lies sz c (fun b => b < w.heap.size) w p v) (hb : Below B w w') (hB : w.heap.size ≤ B) : Lies sz c (fun b => b < w'.heap.size) w' p v :=
  h.mono (fun b o hS => hb.cell (p := ⟨b, o, none⟩) (Nat.lt_of_lt_of_le hS hB)) fun _ hS => Nat.lt_of_lt_of_le hS hb.size
theorem Lies.atDrew {sz : Nat} {c : Pr → Value → List Value} {w : World} {p : Pr} {v : Value} (h : Lies sz c (fun b => b < w.heap.size) w p v) : Lies sz c (fun b => b < w.drew.heap.size) w.drew p v := h.later (Below.refl _ _).drew (Nat.le_refl _)
theorem Lies.atAlloc {sz : Nat} {c : Pr → Value → List Value} {w : World} {p : Pr} {v : Value} (h : Lies sz c (fun b => b < w.heap.size) w p v) (ob : Obj) : Lies sz c (fun b => b < (w.alloc ob).heap.size) (w.alloc ob) p v :=
  h.later ((Below.refl _ _).alloc (Nat.le_refl _) _) (Nat.le_refl _)
theorem lies_slice {sz : Nat} {c : Pr → Value → List Value} {S : Nat → Prop} {w : World} {p : Pr} {v : Value} (h : Lies sz c S w p v) :
    ∃ (oa : Option Addr) (cap b o : Nat) (V : Nat → Value), v = .slice oa p.kids.length cap ∧ p.text.size ≤ maxLen ∧ p.kids.length ≤ cap ∧ cap ≤ maxLen ∧ (0 < p.kids.length → oa = some ⟨b, o, none⟩ ∧ S b) ∧
      (∀ i q, p.kids[i]? = some q → ∀ j u, (c q (V i))[j]? = some u → w.cell? ⟨b, o + i * sz + j, none⟩ = some u) ∧ (∀ i q, p.kids[i]? = some q → Lies sz c S w q (V i)) := by
  cases h with
  | mk op t n x y kids oa cap b o V ht hl hc hn hcell hrec => exact ⟨oa, cap, b, o, V, rfl, ht, hl, hc, hn, hcell, hrec⟩
theorem lies_nil {sz : Nat} {c : Pr → Value → List Value} {S : Nat → Prop} {w : World} {op : Int} {t : ByteArray} {n : Int} {x y : Nat} (ht : t.size ≤ maxLen) : Lies sz c S w (.node op t n x y []) (.slice none 0 0) :=
  .mk op t n x y [] none 0 0 0 (fun _ => .nilFunc) ht (Nat.le_refl _) (Nat.zero_le _) (fun h => absurd h (Nat.lt_irrefl _)) (fun i p h => by simp at h) (fun i p h => by simp at h)
theorem lies_one {sz : Nat} {c : Pr → Value → List Value} {S : Nat → Prop} {w : World} {p : Pr} {v : Value} (h : Lies sz c S w p v) : v.oneCell' = true := by
  obtain ⟨_, _, _, _, _, rfl, _⟩ := lies_slice h; rfl
theorem pc_one {q : Pr} {v : Value} (h : v.oneCell' = true) : ∀ u ∈ pc q v, u.oneCell' = true := by
  intro u hu
  simp only [pc, List.mem_cons, List.not_mem_nil, or_false] at hu
  rcases hu with rfl | rfl | rfl | rfl | rfl
  · rfl
  · rfl
  · rfl
  · rfl
  · exact h
theorem pc_cells {w : World} {q : Pr} {v : Value} {b o : Nat} (h : ∀ j u, (pc q v)[j]? = some u → w.cell? ⟨b, o + j, none⟩ = some u) :
    w.cell? ⟨b, o, none⟩ = some (.int .i64 q.op) ∧ w.cell? ⟨b, o + 1, none⟩ = some (.string q.text) ∧ w.cell? ⟨b, o + 2, none⟩ = some (.int .i64 q.n) ∧ w.cell? ⟨b, o + 3, none⟩ = some (.complex .f64 q.x q.y) ∧ w.cell? ⟨b, o + 4, none⟩ = some v :=
  ⟨h 0 _ rfl, h 1 _ rfl, h 2 _ rfl, h 3 _ rfl, h 4 _ rfl⟩
theorem tc_cells {w : World} {q : Pr} {v : Value} {b o : Nat} (h : ∀ j u, (tc q v)[j]? = some u → w.cell? ⟨b, o + j, none⟩ = some u) :
    w.cell? ⟨b, o, none⟩ = some (.int .i64 q.op) ∧ w.cell? ⟨b, o + 1, none⟩ = some (.string q.text) ∧ w.cell? ⟨b, o + 2, none⟩ = some (.int .i64 q.n) ∧ w.cell? ⟨b, o + 3, none⟩ = some (.float .f64 q.x) ∧ w.cell? ⟨b, o + 4, none⟩ = some (.float .f64 q.y) ∧ w.cell? ⟨b, o + 5, none⟩ = some v :=
  ⟨h 0 _ rfl, h 1 _ rfl, h 2 _ rfl, h 3 _ rfl, h 4 _ rfl, h 5 _ rfl⟩
end Go.Proofs.YtjkcooakddlppaaGreat
/- ListKeeps: its mathematics. No walk. -/
namespace Go.Proofs.YtjkcooakddlppaaGreat
set_option linter.unusedVariables false
set_option linter.unusedSimpArgs false
set_option maxRecDepth 100000
open Go.RowKit
theorem mayLB_iff {l : List Itm} : mayLB l = true ↔ (∀ i ∈ l, mayT i = true) ∧ RiseI l := by
  unfold mayLB
  rw [Bool.and_eq_true, rises_rise, List.all_eq_true]
theorem may_put {l : List Itm} {x : Itm} (h : mayLB l = true) (hx : mayT x = true) : mayLB (putI l x) = true := by
  rw [mayLB_iff] at *
  refine ⟨fun i hi => ?_, put_rise h.2⟩
  rcases put_mem hi with h1 | h1
  · exact h.1 i h1
  · rw [h1]; exact hx
theorem may_filter {l : List Itm} {p : Itm → Bool} (h : mayLB l = true) : mayLB (l.filter p) = true := by
  rw [mayLB_iff] at *
  exact ⟨fun i hi => h.1 i (List.mem_filter.1 hi).1, riseI_filter h.2⟩
theorem eqT_may {i : Itm} (h : mayT i = true) : eqT i i = true := eqT_self (mayT_feq h).1 (mayT_feq h).2
def Ways (same : Bool) (had kept all other : Itm) (was is there beside : Bool) : Prop :=
  (was = false ∧ is = false ∧ beside = false ∧ there = false) ∨
  (was = true ∧ beside = false ∧ there = true ∧ all = had ∧ eqT had had = true ∧ ((same = true ∧ is = false) ∨ (same = false ∧ is = true ∧ kept = had))) ∨
  (was = false ∧ is = false ∧ beside = true ∧ there = true ∧ all = other ∧ eqT other other = true) ∨
  (was = true ∧ beside = true ∧ there = true ∧ eqT had had = true ∧ eqT other other = true ∧ ((behT other had = true ∧ all = other) ∨ (behT other had = false ∧ all = had)) ∧ ((same = true ∧ is = false) ∨ (same = false ∧ is = true ∧ kept = had)))
theorem ways {a b : List Itm} {c : Itm} (ha : mayLB a = true) (hb : mayLB b = true) (id : ByteArray) :
    Ways (id.toList == c.id.toList) (getI a id).1 (getI ((putI a c).filter (neB c.id)) id).1 (getI (bothI behT a b) id).1 (getI b id).1 (getI a id).2 (getI ((putI a c).filter (neB c.id)) id).2 (getI (bothI behT a b) id).2 (getI b id).2 := by
  rw [mayLB_iff] at ha hb
  have hd : getI ((putI a c).filter (neB c.id)) id = if id = c.id then (Itm.zero, false) else getI a id := by
    rw [get_drop (put_rise ha.2)]
    split
    · rfl
    · rename_i h; rw [get_put ha.2, if_neg h]
  rw [hd, get_both b id ha.2 hb.2]
  have e2 : (id.toList == c.id.toList) = decide (id = c.id) := by
    cases h : (id.toList == c.id.toList)
    · rw [decide_eq_false (tl_ne.1 h)]
    · rw [decide_eq_true (tl_eq.1 h)]
  rw [e2]
  unfold Ways
  rcases get_cases a id with ⟨i, hi, _, e⟩ | ⟨_, e⟩ <;> rcases get_cases b id with ⟨j, hj, _, e'⟩ | ⟨_, e'⟩ <;> rw [e, e'] <;> by_cases hq : id = c.id
  · cases h : behT j i <;> simp [hq, h, eqT_may (ha.1 i hi), eqT_may (hb.1 j hj)]
  · cases h : behT j i <;> simp [hq, h, eqT_may (ha.1 i hi), eqT_may (hb.1 j hj)]
  · simp [hq, eqT_may (ha.1 i hi)]
  · simp [hq, eqT_may (ha.1 i hi)]
  · simp [hq, eqT_may (hb.1 j hj)]
  · simp [hq, eqT_may (hb.1 j hj)]
  · simp [hq]
  · simp [hq]
theorem RowAt.take {sz : Nat} {f : Itm → List Value} {w : World} {l : List Itm} {oa : Option Addr} {cap b o : Nat} (h : RowAt sz f w l oa cap b o) (k : Nat) : RowAt sz f w (l.take k) oa cap b o := by
  refine ⟨by rw [List.length_take]; have := h.len; omega, h.max, fun h0 => h.at0 (by rw [List.length_take] at h0; omega), fun j i hj => ?_, fun i hi => h.ok i (List.mem_of_mem_take hi)⟩
  rw [List.getElem?_take] at hj
  split at hj
  · exact h.cell j i hj
  · cases hj
theorem Row.take {sz : Nat} {f : Itm → List Value} {w : World} {l : List Itm} {oa : Option Addr} {n cap : Nat} (h : Row sz f w l (.slice oa n cap)) (k : Nat) : Row sz f w (l.take k) (.slice oa (l.take k).length cap) := by
  obtain ⟨oa', cap', b, o, e, hr⟩ := h
  cases e
  exact ⟨oa, cap, b, o, rfl, hr.take k⟩
theorem Row.cap {sz : Nat} {f : Itm → List Value} {w : World} {l : List Itm} {oa : Option Addr} {n cap : Nat} (h : Row sz f w l (.slice oa n cap)) : l.length ≤ cap ∧ cap ≤ maxLen := by
  obtain ⟨oa', cap', b, o, e, hr⟩ := h
  cases e
  exact ⟨hr.len, hr.max⟩
end Go.Proofs.YtjkcooakddlppaaGreat
/- A whole variable stored, or loaded, at once. No walk. -/
namespace Go.Proofs.YtjkcooakddlppaaGreat
set_option linter.unusedVariables false
set_option linter.unusedSimpArgs false
set_option maxRecDepth 100000
open Go.RowKit
def setArr (c : Array Value) (o : Nat) : List Value → Array Value
  | [] => c
  | v :: r => setArr (c.setIfInBounds o v) (o + 1) r
theorem setArr_size (vs : List Value) : ∀ (c : Array Value) (o : Nat), (setArr c o vs).size = c.size := by
  induction vs with
  | nil => intro c o; rfl
  | cons v r ih => intro c o; rw [setArr, ih]; simp
theorem setArr_get (vs : List Value) : ∀ (c : Array Value) (o j : Nat), j < c.size → (setArr c o vs)[j]? = if o ≤ j ∧ j < o + vs.length then vs[j - o]? else c[j]? := by
  induction vs with
  | nil => intro c o j hj; rw [setArr, if_neg (by simp only [List.length_nil]; omega)]
  | cons v r ih =>
    intro c o j hj
    rw [setArr, ih _ _ _ (by simpa using hj)]
    by_cases e : j = o
    · subst e
      rw [if_neg (by omega), if_pos (by simp)]
      simp [hj]
    · by_cases h : o + 1 ≤ j ∧ j < o + 1 + r.length
      · rw [if_pos h, if_pos (by simp only [List.length_cons]; omega)]
        rw [show j - o = (j - (o + 1)) + 1 by omega, List.getElem?_cons_succ]
      · rw [if_neg h, if_neg (by simp only [List.length_cons]; omega)]
        rw [Array.getElem?_setIfInBounds_ne (fun h' => e h'.symm)]
theorem setArr_all (c : Array Value) (vs : List Value) (h : vs.length = c.size) : setArr c 0 vs = vs.toArray := by
  apply Array.ext_getElem?
  intro j
  by_cases hj : j < c.size
  · rw [setArr_get vs c 0 j hj, if_pos (by omega)]; simp
  · rw [Array.getElem?_eq_none (by rw [setArr_size]; omega), Array.getElem?_eq_none (by simp; omega)]
theorem Own.setsAt {b : Nat} {t : TypeId} (vs : List Value) : ∀ {w : World} {c : Array Value} (o : Nat), Own w b c t → Own (w.setCells b o vs) b (setArr c o vs) t := by
  induction vs with
  | nil => intro w c o h; exact h
  | cons v r ih => intro w c o h; exact ih (o + 1) (h.set o v)
theorem Own.sets {w : World} {b : Nat} {c : Array Value} {t : TypeId} (h : Own w b c t) (vs : List Value) (hl : vs.length = c.size) : Own (w.setCells b 0 vs) b vs.toArray t := by
  rw [← setArr_all c vs hl]; exact h.setsAt vs 0
theorem Own.setsFar {b b' : Nat} {t : TypeId} {c : Array Value} (vs : List Value) : ∀ {w : World} (o : Nat), b' ≠ b → Own w b' c t → Own (w.setCells b o vs) b' c t := by
  induction vs with
  | nil => intro w o _ h; exact h
  | cons v r ih => intro w o hb h; exact ih (o + 1) hb (h.setFar _ _ hb)
theorem below_sets {b B : Nat} {a : World} (hB : B ≤ b) (vs : List Value) : ∀ {w : World} (o : Nat), Below B a w → Below B a (w.setCells b o vs) := by
  induction vs with
  | nil => intro w o h; exact h
  | cons v r ih => intro w o h; exact ih (o + 1) (h.setCell hB v)
theorem Own.there {w : World} {b : Nat} {c : Array Value} {t : TypeId} (h : Own w b c t) {n : Nat} (hn : n = c.size) : w.there b 0 n := fun j hj => by
  rw [Nat.zero_add, h.cell j]
  exact ⟨by rw [Array.getElem?_eq_getElem (by omega)]; rfl, h.free j⟩
theorem Own.range {w : World} {b : Nat} {l : List Value} {t : TypeId} (h : Own w b l.toArray t) : w.rangeAt b 0 l := fun j v hv => by
  rw [Nat.zero_add, h.cell j]; simpa using hv
theorem run_asAddr {P : Program} (a : Addr) (w : World) : (asAddr (.pointer (some a))).run P w = .ok a w := by simp [asAddr]
theorem ret_cell_tmp {P : Program} {fn : Func} {R : Ending → World → Prop} {a : Act} {w : World} {p u : Tmp} {ty : TypeId} {b : Nat} {l : List Value} {x : Value} {d : TypeDesc} (h : fn.results = #[.cell p ty, .tmp u])
    (hp : a.tmps.getD p undef = .pointer (some ⟨b, 0, none⟩)) (hx : a.tmps.getD u undef = x) (hc : w.rangeAt b 0 l) (hu : P.underlying ty = some d) (hd : d.isRow = true) (hi : (P.info? ty).map (·.size) = some l.length)
    (hdf : a.defers = []) (hR : R (.returned (.tuple #[.agg l.toArray, x])) w) : bodyPost P fn R .ret a w :=
  bodyPost_ret (by rw [results_cell_tmp h, hp, hx, run_asAddr]; simp only [Result.andThen_ok]; rw [run_loadVar_mid w b 0 ty l d hc hu hd hi]; rfl) hdf hR
theorem ret_cell {P : Program} {fn : Func} {R : Ending → World → Prop} {a : Act} {w : World} {p : Tmp} {ty : TypeId} {b : Nat} {l : List Value} {d : TypeDesc} (h : fn.results = #[.cell p ty])
    (hp : a.tmps.getD p undef = .pointer (some ⟨b, 0, none⟩)) (hc : w.rangeAt b 0 l) (hu : P.underlying ty = some d) (hd : d.isRow = true) (hi : (P.info? ty).map (·.size) = some l.length)
    (hdf : a.defers = []) (hR : R (.returned (.agg l.toArray)) w) : bodyPost P fn R .ret a w :=
  bodyPost_ret (by
    have e := run_loadVar_mid (P := P) w b 0 ty l d hc hu hd hi
    have hp2 : a.tmps[p]?.getD undef = .pointer (some ⟨b, 0, none⟩) := by rw [← hp]; simp
    simp only [results, h]
    simp [Sem.run_bind, hp2, run_asAddr, e]) hdf hR
end Go.Proofs.YtjkcooakddlppaaGreat
