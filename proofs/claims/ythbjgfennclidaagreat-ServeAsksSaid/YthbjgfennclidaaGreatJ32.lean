/- Joined: StGood, StGood2, RcvM, SrvM, LocF. -/
import Derived.Test.YthbjgfennclidaaGreatJ31
import Derived.Test.YthbjgfennclidaaGreatJ28
import Derived.Test.YthbjgfennclidaaGreatJ16
import Derived.Test.YthbjgfennclidaaGreatJ08
import Derived.Test.YthbjgfennclidaaGreatJ06
import Derived.Test.YthbjgfennclidaaGreatJ15
import Derived.Test.YthbjgfennclidaaGreatJ22
import Derived.Deep.RegionHeld3
/- States that may be: what is made of them may be. Plain mathematics, no walk. -/
namespace Go.Proofs.YthbjgfennclidaaGreat
set_option linter.unusedVariables false
set_option linter.unusedSimpArgs false
set_option maxRecDepth 100000
open Go.RowKit
/-! ### What is known, made plain: what its pieces are -/
/-! ### A state that may be -/
structure Stood (s : St) (want : Bool) (i : Itm) : Prop where
  has : hasT s.f i = want
  knows : hasK s.k i.id i.r i.c = true
  stamp : i.st ≤ s.clock
structure Good (s : St) : Prop where
  f : Pr.mayB s.f = true
  st : mayLB s.store = true
  ou : mayLB s.out = true
  k : mayK nameB s.k = true
  r : 1 ≤ s.r ∧ s.r ≤ 8
  n : s.store.length + s.out.length ≤ 40
  c : 0 ≤ s.count ∧ s.count ≤ 1000
  t : 0 ≤ s.clock ∧ s.clock ≤ 1000000
  e : 0 ≤ s.epoch ∧ s.epoch ≤ 1000000
  tw : ∀ i ∈ s.out, ∀ j ∈ s.store, j.id ≠ i.id
  si : ∀ i ∈ s.store, Stood s true i
  so : ∀ i ∈ s.out, Stood s false i
  b : beyS s.k s.r s.count = false
theorem inB_iff {n a b : Int} : inB n a b = true ↔ a ≤ n ∧ n ≤ b := by
  unfold inB; rw [Bool.and_eq_true, decide_eq_true_eq, decide_eq_true_eq]
theorem stoodB_iff {s : St} {l : List Itm} {want : Bool} : stoodB s l want = true ↔ ∀ i ∈ l, Stood s want i := by
  unfold stoodB
  rw [List.all_eq_true]
  constructor
  · intro h i hi
    have := h i hi
    unfold stoodI at this
    rw [Bool.and_eq_true, Bool.and_eq_true, beq_iff_eq, decide_eq_true_eq] at this
    exact ⟨this.1, this.2.1, this.2.2⟩
  · intro h i hi
    obtain ⟨h1, h2, h3⟩ := h i hi
    unfold stoodI
    rw [Bool.and_eq_true, Bool.and_eq_true, beq_iff_eq, decide_eq_true_eq]
    exact ⟨h1, h2, h3⟩
theorem get_is {l : List Itm} {id : ByteArray} : (getI l id).2 = true ↔ ∃ i ∈ l, i.id = id := by
  rcases get_cases l id with ⟨i, hi, e, h⟩ | ⟨h, h'⟩
  · rw [h]; exact ⟨fun _ => ⟨i, hi, e⟩, fun _ => rfl⟩
  · rw [h']; exact ⟨fun q => by simp at q, fun ⟨i, hi, e⟩ => absurd e (h i hi)⟩
theorem mayS_iff {s : St} : mayS s = true ↔ Good s := by
  unfold mayS headS numS twiceB
  simp only [Bool.and_eq_true, inB_iff, stoodB_iff, decide_eq_true_eq, List.all_eq_true, Bool.not_eq_true']
  constructor
  · rintro ⟨⟨h1, h2, h3, h4, h5, h6⟩, ⟨h7, h8, h9⟩, h10, h11, h12, h13⟩
    refine ⟨h1, h2, h3, h4, h5, h6, h7, h8, h9, fun i hi j hj e => ?_, h11, h12, h13⟩
    have := h10 i hi
    rw [get_is.2 ⟨j, hj, e⟩] at this; cases this
  · rintro ⟨h1, h2, h3, h4, h5, h6, h7, h8, h9, h10, h11, h12, h13⟩
    refine ⟨⟨h1, h2, h3, h4, h5, h6⟩, ⟨h7, h8, h9⟩, fun i hi => ?_, h11, h12, h13⟩
    cases q : (getI s.store i.id).2 with
    | false => rfl
    | true => obtain ⟨j, hj, e⟩ := get_is.1 q; exact absurd e (h10 i hi j hj)
/-! ### What stands -/
theorem Good.rs {s : St} (h : Good s) : RiseI s.store := (mayLB_iff.1 h.st).2
theorem Good.ro {s : St} (h : Good s) : RiseI s.out := (mayLB_iff.1 h.ou).2
theorem stands_or {s : St} (h : Good s) (id : ByteArray) : (∃ i ∈ s.store, i.id = id ∧ standsS s id = (i, true)) ∨ (∃ i ∈ s.out, i.id = id ∧ standsS s id = (i, true)) ∨ ((∀ i ∈ s.store, i.id ≠ id) ∧ (∀ i ∈ s.out, i.id ≠ id) ∧ standsS s id = (Itm.zero, false)) := by
  unfold standsS
  rw [get_both s.out id h.rs h.ro]
  rcases get_cases s.out id with ⟨i, hi, e, hg⟩ | ⟨hn, hg⟩
  · have hs : getI s.store id = (Itm.zero, false) := get_none fun j hj e' => h.tw i hi j hj (e'.trans e.symm)
    rw [hg, hs]
    exact .inr (.inl ⟨i, hi, e, by simp⟩)
  · rw [hg]
    rcases get_cases s.store id with ⟨j, hj, e, hg'⟩ | ⟨hn', hg'⟩
    · rw [hg']; exact .inl ⟨j, hj, e, by simp⟩
    · rw [hg']; exact .inr (.inr ⟨hn', hn, by simp⟩)
end Go.Proofs.YthbjgfennclidaaGreat
/- States that may be: what stands in what is made of them; another filter. Plain mathematics, no walk. -/
namespace Go.Proofs.YthbjgfennclidaaGreat
set_option linter.unusedVariables false
set_option linter.unusedSimpArgs false
set_option maxRecDepth 100000
open Go.RowKit
theorem stands_mem {s : St} (h : Good s) {i : Itm} (hi : i ∈ s.store ∨ i ∈ s.out) : standsS s i.id = (i, true) := by
  rcases stands_or h i.id with ⟨j, hj, e, hq⟩ | ⟨j, hj, e, hq⟩ | ⟨h1, h2, _⟩
  · rw [hq]
    rcases hi with hi | hi
    · rw [riseI_uniq h.rs hj hi e]
    · exact absurd e (h.tw i hi j hj)
  · rw [hq]
    rcases hi with hi | hi
    · exact absurd e.symm (h.tw j hj i hi)
    · rw [riseI_uniq h.ro hj hi e]
  · rcases hi with hi | hi
    · exact absurd rfl (h1 i hi)
    · exact absurd rfl (h2 i hi)
/-! ### Another filter -/
theorem all_mem {s : St} (h : Good s) (i : Itm) : i ∈ bothI behT s.store s.out ↔ (i ∈ s.store ∨ i ∈ s.out) := by
  constructor
  · exact both_mem s.out
  · intro hi
    exact (get_iff (both_rise s.out h.rs)).2 (stands_mem h hi)
/-! ### A state is the same as itself; another count, or epoch, is another state -/
end Go.Proofs.YthbjgfennclidaaGreat
/- What comes to a state, and what goes: plain mathematics. No walk. -/
namespace Go.Proofs.YthbjgfennclidaaGreat
set_option linter.unusedVariables false
set_option linter.unusedSimpArgs false
set_option maxRecDepth 100000
open Go Go.RowKit
end Go.Proofs.YthbjgfennclidaaGreat
/- What a replica answers, as plain data; rows of messages; appends to rows of whatever. No walk. -/
namespace Go.Proofs.YthbjgfennclidaaGreat
set_option linter.unusedVariables false
set_option linter.unusedSimpArgs false
set_option maxRecDepth 100000
open Go Go.RowKit
def ofI (h : Itm) : Itm := ⟨h.id, h.r, h.c, h.st, ⟨#[]⟩, 0, 0, 0, false⟩
def hadI (h : Itm) : Bool := nameB h.id && (verB h.r h.c && inB h.st 1 1000000)
def hadB (l : List Itm) : Bool := decide (l.length ≤ 40) && (l.all hadI && risesB l)
def bareB (m : Mg) : Bool := decide (m.turn = 0) && (decide (m.n = 0) && (decide (m.l.length = 0) && !m.star))
def endsB (a b : Int) : Bool := inB a 1 8 && (inB b 1 8 && !decide (a = b))
def mayM (m : Mg) : Bool := decide (m.kind = 1) && (endsB m.frm m.dst && (inB m.sid 0 1000000 && (bareB m && (hadB m.has && (Pr.mayB m.f && mayK nameB m.k)))))
def wantI (m : Mg) (x : Itm) : Bool := hasT m.f x && !hasK m.k x.id x.r x.c
def enI (x : Itm) : En := ⟨x, false, 0, 0⟩
def goneE (h : Itm) (r c : Int) : En := ⟨⟨h.id, h.r, h.c, 0, ⟨#[]⟩, 0, 0, 0, false⟩, true, r, c⟩
def lacksE (all : List Itm) (m : Mg) : List En := (all.filter (wantI m)).map enI
def leftB (all : List Itm) (m : Mg) (h : Itm) : Bool := (getI all h.id).2 && (!hasT m.f (getI all h.id).1 && behT (getI all h.id).1 h)
def leftE (all : List Itm) (h : Itm) : En := goneE h (getI all h.id).1.r (getI all h.id).1.c
def leavesE (all : List Itm) (m : Mg) (l : List Itm) : List En := (l.filter (leftB all m)).map (leftE all)
def lostB (s : St) (all : List Itm) (h : Itm) : Bool := !(getI all h.id).2 && hasK s.k h.id h.r h.c
def lostE (s : St) (all : List Itm) (l : List Itm) : List En := (l.filter (lostB s all)).map fun h => goneE h 0 0
abbrev noP : Pr := .node 0 ⟨#[]⟩ 0 0 0 []
abbrev noK : Kn := ⟨zeroV, []⟩
def batM (m : Mg) (turn : Int) (i : Nat) (l : List En) : Mg := ⟨2, m.dst, m.frm, m.sid, turn, noP, noK, [], i, l, false⟩
def cutE (l : List En) (i : Nat) : List En := (l.drop (4 * i)).take 4
def batsM (m : Mg) (turn : Int) (l : List En) (n : Nat) : List Mg := (List.range n).map fun i => batM m turn i (cutE l i)
def manyE (l : List En) : Nat := (l.length + 3) / 4
def doneM (s : St) (m : Mg) (turn : Int) (all : List Itm) (n : Nat) : Mg :=
  ⟨3, m.dst, m.frm, m.sid, turn, noP, if Pr.inB m.f s.f = true then s.k else noK, [], n, if Pr.inB m.f s.f = true then lostE s all m.has else [], false⟩
def allI (s : St) : List Itm := bothI behT s.store s.out
def ansE (s : St) (m : Mg) : List En := lacksE (allI s) m ++ leavesE (allI s) m m.has
def ansM (s : St) (m : Mg) (turn : Int) : List Mg :=
  if mayM m = true ∧ m.dst = s.r then batsM m turn (ansE s m) (manyE (ansE s m)) ++ [doneM s m turn (allI s) (manyE (ansE s m))] else []
/-! Steps of loops. -/
theorem filter_step {α β : Type} {l : List α} {p : α → Bool} {f : α → β} {k : Nat} {x : α} (h : l[k]? = some x) : ((l.take (k + 1)).filter p).map f = ((l.take k).filter p).map f ++ (if p x = true then [f x] else []) := by
  rw [List.take_add_one, h, List.filter_append, List.map_append]
  cases hp : p x <;> simp [hp]
theorem filter_yes {α β : Type} {l : List α} {p : α → Bool} {f : α → β} {k : Nat} {x : α} (h : l[k]? = some x) (hp : p x = true) : ((l.take (k + 1)).filter p).map f = ((l.take k).filter p).map f ++ [f x] := by rw [filter_step h, if_pos hp]
theorem filter_no {α β : Type} {l : List α} {p : α → Bool} {f : α → β} {k : Nat} {x : α} (h : l[k]? = some x) (hp : p x = false) : ((l.take (k + 1)).filter p).map f = ((l.take k).filter p).map f := by rw [filter_step h, if_neg (by rw [hp]; exact Bool.false_ne_true)]; simp
theorem filter_len {α β : Type} (l : List α) (p : α → Bool) (f : α → β) : ((l.filter p).map f).length ≤ l.length := by rw [List.length_map]; exact List.length_filter_le _ _
theorem bats_step (m : Mg) (turn : Int) (l : List En) (n : Nat) : batsM m turn l (n + 1) = batsM m turn l n ++ [batM m turn n (cutE l n)] := by
  unfold batsM; rw [List.range_succ, List.map_append]; rfl
theorem bats_len (m : Mg) (turn : Int) (l : List En) (n : Nat) : (batsM m turn l n).length = n := by unfold batsM; simp
/-! Rows of messages. -/
structure Mv where
  m : Mg
  fv : Value
  kv : Value
  hv : Value
  lv : Value
abbrev mvC (x : Mv) : List Value := (mgA x.m x.fv x.kv x.hv x.lv).toList
structure MsW (w : World) (l : List Mg) (L : List Mv) (v : Value) : Prop where
  e : L.map (·.m) = l
  r : GRow 23 mvC w L v
  w : ∀ x ∈ L, MgW w x.m x.fv x.kv x.hv x.lv
theorem MsW.later {w w' : World} {l : List Mg} {L : List Mv} {v : Value} (h : MsW w l L v) (hb : Below w.heap.size w w') : MsW w' l L v := ⟨h.e, h.r.later hb, fun x hx => (h.w x hx).later hb⟩
theorem ec_one (e : En) : ∀ u ∈ ec e, u.oneCell' = true := by
  intro u hu
  simp only [ec, List.mem_cons, List.not_mem_nil, or_false] at hu
  rcases hu with rfl | rfl | rfl | rfl | rfl | rfl | rfl | rfl | rfl | rfl | rfl <;> rfl
theorem gC_one {α : Type} {f : α → List Value} (hf : ∀ a, ∀ u ∈ f a, u.oneCell' = true) (l : List α) : ∀ u ∈ gC f l, u.oneCell' = true := by
  intro u hu
  unfold gC at hu
  obtain ⟨i, _, hi⟩ := List.mem_flatMap.1 hu
  exact hf i u hi
theorem gC_append {α : Type} (f : α → List Value) (l m : List α) : gC f (l ++ m) = gC f l ++ gC f m := by simp [gC]
theorem gat_news {α : Type} {sz : Nat} {f : α → List Value} {w : World} {l : List α} {oa : Option Addr} {cap b o : Nat} (hf : ∀ a, (f a).length = sz) (h : GAt sz f w l oa cap b o) (hsz : 0 < sz) : ∀ j u, (gC f l)[j]? = some u → w.cell? ⟨b, o + j, none⟩ = some u := fun j u hj => by
  have hlt : j < l.length * sz := by have := (List.getElem?_eq_some_iff.1 hj).1; rw [gC_len hf] at this; exact this
  have hk : j / sz < l.length := by rw [Nat.div_lt_iff_lt_mul hsz]; exact hlt
  have hm : j % sz < sz := Nat.mod_lt _ hsz
  have e : j = j / sz * sz + j % sz := by rw [Nat.mul_comm]; exact (Nat.div_add_mod j sz).symm
  have hx : l[j / sz]? = some l[j / sz] := List.getElem?_eq_getElem hk
  rw [e, gC_get hf l (j / sz) _ hx (j % sz) hm] at hj
  have := h.cell (j / sz) _ hx (j % sz) u hj
  rw [e, ← Nat.add_assoc]; exact this
theorem run_append_G {α : Type} {f : α → List Value} {size : Nat} (hf : ∀ a, (f a).length = size) (h1 : ∀ a, ∀ u ∈ f a, u.oneCell' = true) (t ty e : TypeId) (i : TypeInfo) (z : Value) (bytes : Nat) (ht : Tryz.prog.underlying t = some (.slice e)) (hi : Tryz.prog.info? e = some i) (hz : i.zero = some z)
    (hsize : i.size = size) (hby : i.bytes = bytes) (hzs : z.cells.size = size) (hsz : 0 < size) {w : World} {base : Nat} {v sv : Value} {l m : List α} (hown : OwnG e size f w base l v) (hM : GRow size f w m sv) (hn : l.length + m.length ≤ 30000) (hb : bytes ≤ 1000) (hbase : base ≤ w.heap.size) :
    ∃ v' w', (Builtin.append_ #[t, t] ty #[v, sv]).run Tryz.prog w = .ok v' w' ∧ OwnG e size f w' base (l ++ m) v' ∧ w.grownBy w' v.ownBlock := by
  obtain ⟨oa, cap, b, o, rfl, h⟩ := hM
  obtain ⟨v', w', r1, r2, r3⟩ := run_append_src t ty e i z size bytes ht hi hz hsize hby hzs hsz hown oa m.length cap (gC f m) (gC_len hf m) (fun h0 => ⟨b, o, (h.at0 h0).1, gat_news hf h hsz⟩) (gC_one h1 m) hn hb hbase
  refine ⟨v', w', r1, ?_, r3⟩
  unfold OwnG
  rw [gC_append, List.length_append]
  exact r2
theorem info_en : (Tryz.prog.info? 70).map (fun i => (i.zero, i.size, i.bytes)) = some (some (.agg #[.string ⟨#[]⟩, .int .i64 0, .int .i64 0, .int .i64 0, .string ⟨#[]⟩, .int .i64 0, .complex .f64 0 0, .bool false, .bool false, .int .i64 0, .int .i64 0]), 11, 112) := by kernel_rfl
theorem info_mg : (Tryz.prog.info? 47).map (fun i => (i.zero, i.size, i.bytes)) = some (some (.agg #[.int .i64 0, .int .i64 0, .int .i64 0, .int .i64 0, .int .i64 0, .int .i64 0, .string ⟨#[]⟩, .int .i64 0, .complex .f64 0 0, nilV, .int .i64 0, .int .i64 0, .int .i64 0, .int .i64 0, .int .i64 0, .int .i64 0, .int .i64 0, .int .i64 0, nilV, nilV, .int .i64 0, nilV, .bool false]), 23, 264) := by kernel_rfl
end Go.Proofs.YthbjgfennclidaaGreat
/- The code's filter of layer 9: a filter in new memory. Walked. -/
namespace Go.Proofs.YthbjgfennclidaaGreat
set_option linter.unusedVariables false
set_option linter.unusedSimpArgs false
set_option maxRecDepth 100000
open Go.RowKit
/-! ### Worlds that grew, but for one block -/
theorem gr_cell {a w : World} {row : Option Nat} (h : a.grownBy w row) {b : Nat} (hb : b < a.heap.size) (hne : some b ≠ row) (o : Nat) : w.cell? ⟨b, o, none⟩ = a.cell? ⟨b, o, none⟩ := World.cell?_of_block (h.block b hb hne)
theorem LPF.grown {w w' : World} {B : Nat} {p : Pr} {v : Value} {b : Nat} (h : LPF w B p v) (hg : w.grownBy w' (some b)) (hb : b < B) : LPF w' B p v :=
  h.mono (fun k o hS => gr_cell hg hS.2 (by simp only [ne_eq, Option.some.injEq]; have := hS.1; omega) o) fun k hS => ⟨hS.1, Nat.lt_of_lt_of_le hS.2 hg.size⟩
/-! ### A row's element set anew -/
theorem set_same {α : Type} {xs : List α} {k : Nat} {x : α} (h : xs[k]? = some x) : xs.set k x = xs := by
  apply List.ext_getElem?
  intro j
  rw [List.getElem?_set]
  split
  · rename_i e
    subst e
    split
    · exact h.symm
    · rename_i hn; rw [List.getElem?_eq_none (by omega)]
  · rfl
/-! ### What the closure has -/
theorem LPF.setsAt {B b : Nat} {p : Pr} {v : Value} (hb : b < B) (vs : List Value) : ∀ {w : World} (o : Nat), LPF w B p v → LPF (w.setCells b o vs) B p v := by
  induction vs with
  | nil => intro w o h; exact h
  | cons u vs ih =>
    intro w o h
    exact ih (o + 1) (h.mono (fun b' o' hS => World.cell?_setCell_other _ _ _ _ (fun e => by have := hS.1; have : b = b' := congrArg Addr.block e; omega)) fun _ hS => ⟨hS.1, by simpa [World.setCell] using hS.2⟩)
end Go.Proofs.YthbjgfennclidaaGreat
