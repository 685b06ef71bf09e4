/- Joined: StGood, StN, RefSt7, StGood2. -/
import Derived.Test.YtjkcooakddlppaaGreatJ31
import Derived.Test.YtjkcooakddlppaaGreatJ27
import Derived.Test.YtjkcooakddlppaaGreatJ16
/- States that may be: what is made of them may be. Plain mathematics, no walk. -/
namespace Go.Proofs.YtjkcooakddlppaaGreat
set_option linter.unusedVariables false
set_option linter.unusedSimpArgs false
set_option maxRecDepth 100000
open Go.RowKit
/-! ### What is known, made plain: what its pieces are -/
theorem grp_v {F : ByteArray → Nat → Int} (ids : List ByteArray) : ∀ {o : List Fr} {f : Fr}, f ∈ ids.foldl (grpStep F) o → (∃ x ∈ ids, f.v = F x) ∨ ∃ g ∈ o, f.v = g.v := by
  induction ids with
  | nil => intro o f h; exact .inr ⟨f, h, rfl⟩
  | cons a l ih =>
    intro o f h
    rw [List.foldl_cons] at h
    rcases ih h with ⟨x, hx, e⟩ | ⟨g, hg, e⟩
    · exact .inl ⟨x, by simp [hx], e⟩
    · unfold grpStep at hg
      split at hg
      · exact .inr ⟨g, hg, e⟩
      · rcases mem_putF hg with hg | hg | ⟨g', hg', _, hg⟩
        · exact .inr ⟨g, hg, e⟩
        · exact .inl ⟨a, by simp, by rw [e, hg]⟩
        · exact .inr ⟨g', hg', by rw [e, hg]⟩
theorem grp_i {F : ByteArray → Nat → Int} (ids : List ByteArray) : ∀ {o : List Fr} {x : ByteArray}, (∃ f ∈ ids.foldl (grpStep F) o, x ∈ f.ids) → x ∈ ids ∨ ∃ f ∈ o, x ∈ f.ids := by
  induction ids with
  | nil => intro o x h; exact .inr h
  | cons a l ih =>
    intro o x h
    rw [List.foldl_cons] at h
    rcases ih h with h | h
    · exact .inl (by simp [h])
    · unfold grpStep at h
      split at h
      · exact .inr h
      · rcases put_ids h with h | h
        · exact .inl (by simp [h])
        · exact .inr h
theorem plain_v {k : Kn} {f : Fr} (h : f ∈ (plainB k).l) : ∃ x, f.v = beyB k x := by
  rcases grp_v (namesB k) h with ⟨x, _, e⟩ | ⟨g, hg, _⟩
  · exact ⟨x, e⟩
  · simp at hg
theorem plain_i {k : Kn} {f : Fr} {x : ByteArray} (h : f ∈ (plainB k).l) (hx : x ∈ f.ids) : ∃ g ∈ k.l, x ∈ g.ids := by
  rcases grp_i (namesB k) ⟨f, h, hx⟩ with h | ⟨g, hg, _⟩
  · exact mem_names.1 h
  · simp at hg
theorem bey_le {k : Kn} {j : Nat} {n : Int} (h0 : 0 ≤ n) (h : ∀ f ∈ k.l, f.v j ≤ n) (x : ByteArray) : beyB k x j ≤ n := by
  unfold beyB
  split
  · split
    · exact h0
    · rcases raw_is k.l x j with e | ⟨f, hf, _, e⟩
      · omega
      · rw [e]; exact h f hf
  · exact h0
theorem mayFr_iff {nm : ByteArray → Bool} {f : Fr} : mayFr nm f = true ↔ (∀ j, j < 8 → 0 ≤ f.v j ∧ f.v j ≤ 1000) ∧ ∀ x ∈ f.ids, nm x = true := by
  unfold mayFr
  rw [Bool.and_eq_true, mayV_iff, List.all_eq_true]
theorem mayK_iff {nm : ByteArray → Bool} {k : Kn} : mayK nm k = true ↔ (alikeK k (plainB k) = true ∧ ∀ j, j < 8 → 0 ≤ k.star j ∧ k.star j ≤ 1000) ∧ ∀ f ∈ k.l, mayFr nm f = true := by
  unfold mayK
  rw [Bool.and_eq_true, Bool.and_eq_true, mayV_iff, List.all_eq_true]
theorem mayK_plain {nm : ByteArray → Bool} {k : Kn} (hs : ∀ j, j < 8 → 0 ≤ k.star j ∧ k.star j ≤ 1000) (hl : ∀ f ∈ k.l, mayFr nm f = true) : mayK nm (plainB k) = true := by
  rw [mayK_iff]
  refine ⟨⟨alike_of (eqV_refl _) (plain_l (bey_plain k)).symm, hs⟩, fun f hf => ?_⟩
  rw [mayFr_iff]
  obtain ⟨y, e⟩ := plain_v hf
  refine ⟨fun j hj => ?_, fun x hx => ?_⟩
  · rw [e]
    exact ⟨bey_nonneg k y j, bey_le (by decide) (fun g hg => ((mayFr_iff.1 (hl g hg)).1 j hj).2) y⟩
  · obtain ⟨g, hg, hm⟩ := plain_i hf hx
    exact (mayFr_iff.1 (hl g hg)).2 x hm
theorem withZ_le (r c : Int) (hc : 0 ≤ c) (j : Nat) : 0 ≤ withV zeroV r c j ∧ withV zeroV r c j ≤ c := by
  unfold withV zeroV
  split <;> omega
theorem mayK_with {k : Kn} {id : ByteArray} {r c : Int} (h : mayK nameB k = true) (hid : nameB id = true) (hc : 0 ≤ c ∧ c ≤ 1000) : mayK nameB (plainB (withK k id r c)) = true := by
  rw [mayK_iff] at h
  refine mayK_plain h.1.2 fun f hf => ?_
  rcases List.mem_append.1 hf with hf | hf
  · exact h.2 f hf
  · simp at hf; subst hf
    rw [mayFr_iff]
    exact ⟨fun j _ => ⟨(withZ_le r c hc.1 j).1, Int.le_trans (withZ_le r c hc.1 j).2 hc.2⟩, fun x hx => by simp at hx; rw [hx]; exact hid⟩
theorem beyS_iff {k : Kn} {r n : Int} : beyS k r n = false ↔ cntV k.star r ≤ n ∧ ∀ f ∈ k.l, cntV f.v r ≤ n := by
  unfold beyS
  rw [Bool.or_eq_false_iff, List.any_eq_false]
  simp only [decide_eq_true_eq, decide_eq_false_iff_not]
  constructor
  · rintro ⟨h1, h2⟩; exact ⟨by omega, fun f hf => by have := h2 f hf; omega⟩
  · rintro ⟨h1, h2⟩; exact ⟨by omega, fun f hf => by have := h2 f hf; omega⟩
theorem cntV_le {A : Nat → Int} {r n : Int} (h0 : 0 ≤ n) (h : 1 ≤ r ∧ r ≤ 8 → A (r - 1).toNat ≤ n) : cntV A r ≤ n := by
  unfold cntV
  split
  · rename_i hr; exact h hr
  · exact h0
theorem cnt_at {A : Nat → Int} {r n : Int} (h : cntV A r ≤ n) (hr : 1 ≤ r ∧ r ≤ 8) : A (r - 1).toNat ≤ n := by
  unfold cntV at h
  rwa [if_pos hr] at h
theorem beyS_plain {k : Kn} {r n : Int} (h0 : 0 ≤ n) (h : beyS k r n = false) : beyS (plainB k) r n = false := by
  rw [beyS_iff] at h ⊢
  refine ⟨h.1, fun f hf => cntV_le h0 fun hr => ?_⟩
  obtain ⟨x, e⟩ := plain_v hf
  rw [e]
  exact bey_le h0 (fun g hg => cnt_at (h.2 g hg) hr) x
theorem beyS_with {k : Kn} {id : ByteArray} {r r' c n : Int} (h0 : 0 ≤ n) (h : beyS k r n = false) (hc : r' = r → c ≤ n) (hc0 : 0 ≤ c) (hr' : 1 ≤ r' ∧ r' ≤ 8) : beyS (withK k id r' c) r n = false := by
  rw [beyS_iff] at h ⊢
  refine ⟨h.1, fun f hf => ?_⟩
  rcases List.mem_append.1 hf with hf | hf
  · exact h.2 f hf
  · simp at hf; subst hf
    refine cntV_le h0 fun hr => ?_
    show withV zeroV r' c (r - 1).toNat ≤ n
    unfold withV zeroV
    split
    · rename_i h2
      exact hc (by omega)
    · exact h0
/-! ### A state that may be -/
structure Stood (s : St) (want : Bool) (i : Itm) : Prop where
  has : hasT s.f i = want
  knows : hasK s.k i.id i.r i.c = true
  stamp : i.st ≤ s.clock
structure Good (s : St) : Prop where
  f : Pr.mayB s.f = true
  st : mayLB s.store = true
  ou : mayLB s.out = true
  k : mayK nameB s.k = true
  r : 1 ≤ s.r ∧ s.r ≤ 8
  n : s.store.length + s.out.length ≤ 40
  c : 0 ≤ s.count ∧ s.count ≤ 1000
  t : 0 ≤ s.clock ∧ s.clock ≤ 1000000
  e : 0 ≤ s.epoch ∧ s.epoch ≤ 1000000
  tw : ∀ i ∈ s.out, ∀ j ∈ s.store, j.id ≠ i.id
  si : ∀ i ∈ s.store, Stood s true i
  so : ∀ i ∈ s.out, Stood s false i
  b : beyS s.k s.r s.count = false
theorem inB_iff {n a b : Int} : inB n a b = true ↔ a ≤ n ∧ n ≤ b := by
  unfold inB; rw [Bool.and_eq_true, decide_eq_true_eq, decide_eq_true_eq]
theorem stoodB_iff {s : St} {l : List Itm} {want : Bool} : stoodB s l want = true ↔ ∀ i ∈ l, Stood s want i := by
  unfold stoodB
  rw [List.all_eq_true]
  constructor
  · intro h i hi
    have := h i hi
    unfold stoodI at this
    rw [Bool.and_eq_true, Bool.and_eq_true, beq_iff_eq, decide_eq_true_eq] at this
    exact ⟨this.1, this.2.1, this.2.2⟩
  · intro h i hi
    obtain ⟨h1, h2, h3⟩ := h i hi
    unfold stoodI
    rw [Bool.and_eq_true, Bool.and_eq_true, beq_iff_eq, decide_eq_true_eq]
    exact ⟨h1, h2, h3⟩
theorem get_is {l : List Itm} {id : ByteArray} : (getI l id).2 = true ↔ ∃ i ∈ l, i.id = id := by
  rcases get_cases l id with ⟨i, hi, e, h⟩ | ⟨h, h'⟩
  · rw [h]; exact ⟨fun _ => ⟨i, hi, e⟩, fun _ => rfl⟩
  · rw [h']; exact ⟨fun q => by simp at q, fun ⟨i, hi, e⟩ => absurd e (h i hi)⟩
theorem mayS_iff {s : St} : mayS s = true ↔ Good s := by
  unfold mayS headS numS twiceB
  simp only [Bool.and_eq_true, inB_iff, stoodB_iff, decide_eq_true_eq, List.all_eq_true, Bool.not_eq_true']
  constructor
  · rintro ⟨⟨h1, h2, h3, h4, h5, h6⟩, ⟨h7, h8, h9⟩, h10, h11, h12, h13⟩
    refine ⟨h1, h2, h3, h4, h5, h6, h7, h8, h9, fun i hi j hj e => ?_, h11, h12, h13⟩
    have := h10 i hi
    rw [get_is.2 ⟨j, hj, e⟩] at this; cases this
  · rintro ⟨h1, h2, h3, h4, h5, h6, h7, h8, h9, h10, h11, h12, h13⟩
    refine ⟨⟨h1, h2, h3, h4, h5, h6⟩, ⟨h7, h8, h9⟩, fun i hi => ?_, h11, h12, h13⟩
    cases q : (getI s.store i.id).2 with
    | false => rfl
    | true => obtain ⟨j, hj, e⟩ := get_is.1 q; exact absurd e (h10 i hi j hj)
/-! ### What stands -/
theorem Good.rs {s : St} (h : Good s) : RiseI s.store := (mayLB_iff.1 h.st).2
theorem Good.ro {s : St} (h : Good s) : RiseI s.out := (mayLB_iff.1 h.ou).2
theorem stands_or {s : St} (h : Good s) (id : ByteArray) : (∃ i ∈ s.store, i.id = id ∧ standsS s id = (i, true)) ∨ (∃ i ∈ s.out, i.id = id ∧ standsS s id = (i, true)) ∨ ((∀ i ∈ s.store, i.id ≠ id) ∧ (∀ i ∈ s.out, i.id ≠ id) ∧ standsS s id = (Itm.zero, false)) := by
  unfold standsS
  rw [get_both s.out id h.rs h.ro]
  rcases get_cases s.out id with ⟨i, hi, e, hg⟩ | ⟨hn, hg⟩
  · have hs : getI s.store id = (Itm.zero, false) := get_none fun j hj e' => h.tw i hi j hj (e'.trans e.symm)
    rw [hg, hs]
    exact .inr (.inl ⟨i, hi, e, by simp⟩)
  · rw [hg]
    rcases get_cases s.store id with ⟨j, hj, e, hg'⟩ | ⟨hn', hg'⟩
    · rw [hg']; exact .inl ⟨j, hj, e, by simp⟩
    · rw [hg']; exact .inr (.inr ⟨hn', hn, by simp⟩)
theorem stands_may {s : St} (h : Good s) {id : ByteArray} (hs : (standsS s id).2 = true) : mayT (standsS s id).1 = true ∧ (standsS s id).1.id = id := by
  rcases stands_or h id with ⟨i, hi, e, hq⟩ | ⟨i, hi, e, hq⟩ | ⟨_, _, hq⟩
  · rw [hq]; exact ⟨(mayLB_iff.1 h.st).1 i hi, e⟩
  · rw [hq]; exact ⟨(mayLB_iff.1 h.ou).1 i hi, e⟩
  · rw [hq] at hs; cases hs
theorem filt_lt {l : List Itm} {id : ByteArray} (h : ∃ i ∈ l, i.id = id) : (l.filter (neB id)).length + 1 ≤ l.length := by
  obtain ⟨i, hi, e⟩ := h
  have : (l.filter (neB id)).length < l.length := by
    rw [List.length_filter_lt_length_iff_exists]
    exact ⟨i, hi, by unfold neB; rw [tl_eq.2 e]; simp⟩
  omega
theorem filt_le (l : List Itm) (id : ByteArray) : (l.filter (neB id)).length ≤ l.length := List.length_filter_le _ _
theorem mayT_iff {i : Itm} : mayT i = true ↔ nameB i.id = true ∧ txtB i.kd = true ∧ (1 ≤ i.r ∧ i.r ≤ 8) ∧ (1 ≤ i.c ∧ i.c ≤ 1000) ∧ (1 ≤ i.st ∧ i.st ≤ 1000000) ∧ (inB i.num (-1000000) 1000000 = true) ∧ mayB i.x i.y = true := by
  unfold mayT mayI verB
  simp only [Bool.and_eq_true, inB_iff]
  constructor
  · rintro ⟨h1, h2, ⟨h3, h4⟩, h5, h6, h7⟩; exact ⟨h1, h2, h3, h4, h5, h6, h7⟩
  · rintro ⟨h1, h2, h3, h4, h5, h6, h7⟩; exact ⟨h1, h2, ⟨h3, h4⟩, h5, h6, h7⟩
end Go.Proofs.YtjkcooakddlppaaGreat
/- What a deed tells: where it lies. No walk. -/
namespace Go.Proofs.YtjkcooakddlppaaGreat
set_option linter.unusedVariables false
set_option linter.unusedSimpArgs false
set_option maxRecDepth 100000
open Go.RowKit
def LPF (w : World) (B : Nat) (p : Pr) (v : Value) : Prop := Lies 5 pc (fun b => B ≤ b ∧ b < w.heap.size) w p v
theorem LPF.lp {w : World} {B : Nat} {p : Pr} {v : Value} (h : LPF w B p v) : LP w p v := h.mono (fun _ _ _ => rfl) fun _ h => h.2
theorem LPF.later {w w' : World} {B : Nat} {p : Pr} {v : Value} (h : LPF w B p v) (hb : Below w.heap.size w w') : LPF w' B p v :=
  h.mono (fun b o hS => hb.cell (p := ⟨b, o, none⟩) hS.2) fun _ hS => ⟨hS.1, Nat.lt_of_lt_of_le hS.2 hb.size⟩
theorem LPF.mono' {w : World} {B B' : Nat} {p : Pr} {v : Value} (h : LPF w B p v) (hb : B' ≤ B) : LPF w B' p v := h.mono (fun _ _ _ => rfl) fun _ h => ⟨Nat.le_trans hb h.1, h.2⟩
theorem LPF.sets {w : World} {B b : Nat} {p : Pr} {v : Value} (h : LPF w B p v) (hb : b < B) (vs : List Value) : LPF (w.setCells b 0 vs) B p v :=
  h.mono (fun b' o hS => World.cell?_setCells_out b vs 0 w ⟨b', o, none⟩ (fun e _ => by have := hS.1; simp only at e; omega)) fun _ hS => ⟨hS.1, Nat.lt_of_lt_of_le hS.2 (below_sets (B := b) (Nat.le_refl _) vs 0 (Below.refl b w)).size⟩
structure StN (w : World) (B : Nat) (p : Pr) (pv : Value) (l : List Itm) (sv : Value) (m : List Itm) (ov : Value) (k : List Fr) (kv : Value) (U : St) (fv' sv' ov' kv' : Value) : Prop where
  f : (U.f = p ∧ fv' = pv) ∨ LPF w B U.f fv'
  st : (U.store = l ∧ sv' = sv) ∨ RowF w B U.store sv'
  ou : (U.out = m ∧ ov' = ov) ∨ RowF w B U.out ov'
  k : (U.k.l = k ∧ kv' = kv) ∨ FrFresh w B U.k.l kv'
section
variable {w : World} {B : Nat} {p : Pr} {pv : Value} {l : List Itm} {sv : Value} {m : List Itm} {ov : Value} {k : List Fr} {kv : Value} {U : St} {fv' sv' ov' kv' : Value}
theorem StN.later {w' : World} (h : StN w B p pv l sv m ov k kv U fv' sv' ov' kv') (hb : Below w.heap.size w w') : StN w' B p pv l sv m ov k kv U fv' sv' ov' kv' :=
  ⟨h.f.imp id fun h => h.later hb, h.st.imp id fun h => h.later hb, h.ou.imp id fun h => h.later hb, h.k.imp id fun h => h.stays hb⟩
theorem StN.mono {B' : Nat} (h : StN w B p pv l sv m ov k kv U fv' sv' ov' kv') (hb : B' ≤ B) : StN w B' p pv l sv m ov k kv U fv' sv' ov' kv' :=
  ⟨h.f.imp id fun h => h.mono' hb, h.st.imp id fun h => h.mono hb, h.ou.imp id fun h => h.mono hb, h.k.imp id fun h => h.mono hb⟩
theorem StN.sets {b : Nat} (h : StN w B p pv l sv m ov k kv U fv' sv' ov' kv') (hb : b < B) (vs : List Value) : StN (w.setCells b 0 vs) B p pv l sv m ov k kv U fv' sv' ov' kv' :=
  ⟨h.f.imp id fun h => h.sets hb vs, h.st.imp id fun h => h.sets hb vs 0, h.ou.imp id fun h => h.sets hb vs 0, h.k.imp id fun h => h.sets hb vs 0⟩
theorem StN.lies {w0 : World} (h : StN w B p pv l sv m ov k kv U fv' sv' ov' kv') (hp : LP w0 p pv) (hl : Row 8 ic w0 l sv) (hm : Row 8 ic w0 m ov) (hk : FrW w0 k kv) (hb : Below w0.heap.size w0 w) : StW w U fv' sv' ov' kv' := by
  obtain ⟨h1, h2, h3, h4⟩ := h
  refine ⟨?_, ?_, ?_, ?_⟩
  · rcases h1 with ⟨e, rfl⟩ | h1
    · rw [e]; exact hp.later hb (Nat.le_refl _)
    · exact h1.lp
  · rcases h2 with ⟨e, rfl⟩ | h2
    · rw [e]; exact hl.later hb
    · exact h2.row
  · rcases h3 with ⟨e, rfl⟩ | h3
    · rw [e]; exact hm.later hb
    · exact h3.row
  · rcases h4 with ⟨e, rfl⟩ | h4
    · rw [e]; exact hk.later hb (Nat.le_refl _)
    · exact h4.fr
theorem StX.n {s : St} {fv : Value} (h : StX w B s U sv ov kv sv' ov' kv') : StN w B s.f fv s.store sv s.out ov s.k.l kv U fv sv' ov' kv' := by
  rcases h with ⟨rfl, rfl, rfl, rfl⟩ | ⟨e, h1, h2, h3⟩
  · exact ⟨.inl ⟨rfl, rfl⟩, .inl ⟨rfl, rfl⟩, .inl ⟨rfl, rfl⟩, .inl ⟨rfl, rfl⟩⟩
  · exact ⟨.inl ⟨e, rfl⟩, .inr h1, .inr h2, .inr h3⟩
end
def Told (c : Int → Value) (p : Pr) (pv : Value) (s : St) (sv ov kv : Value) (U : St) (E : Int) (w : World) (e : Ending) (w' : World) : Prop :=
  ∃ fv' sv' ov' kv', e = .returned (.tuple #[stV U fv' sv' ov' kv', c E]) ∧ StN w' w.heap.size p pv s.store sv s.out ov s.k.l kv U fv' sv' ov' kv' ∧ Below w.heap.size w w'
def numI (n : Int) : Value := .int .i64 n
end Go.Proofs.YtjkcooakddlppaaGreat
/- What a state's replica does by itself, the document's answers: shape, Create, Update, Delete. Walked. -/
namespace Go.Proofs.YtjkcooakddlppaaGreat
set_option linter.unusedVariables false
set_option linter.unusedSimpArgs false
set_option maxRecDepth 100000
open Go.RowKit
end Go.Proofs.YtjkcooakddlppaaGreat
/- States that may be: what stands in what is made of them; another filter. Plain mathematics, no walk. -/
namespace Go.Proofs.YtjkcooakddlppaaGreat
set_option linter.unusedVariables false
set_option linter.unusedSimpArgs false
set_option maxRecDepth 100000
open Go.RowKit
theorem stands_mem {s : St} (h : Good s) {i : Itm} (hi : i ∈ s.store ∨ i ∈ s.out) : standsS s i.id = (i, true) := by
  rcases stands_or h i.id with ⟨j, hj, e, hq⟩ | ⟨j, hj, e, hq⟩ | ⟨h1, h2, _⟩
  · rw [hq]
    rcases hi with hi | hi
    · rw [riseI_uniq h.rs hj hi e]
    · exact absurd e (h.tw i hi j hj)
  · rw [hq]
    rcases hi with hi | hi
    · exact absurd e.symm (h.tw j hj i hi)
    · rw [riseI_uniq h.ro hj hi e]
  · rcases hi with hi | hi
    · exact absurd rfl (h1 i hi)
    · exact absurd rfl (h2 i hi)
theorem stands_ext {s t : St} (h : Good s) (h' : Good t) {id : ByteArray} (he : ∀ i : Itm, i.id = id → ((i ∈ s.store ∨ i ∈ s.out) ↔ (i ∈ t.store ∨ i ∈ t.out))) : standsS s id = standsS t id := by
  rcases stands_or h id with ⟨j, hj, e, hq⟩ | ⟨j, hj, e, hq⟩ | ⟨h1, h2, hq⟩
  · have := stands_mem h' ((he j e).1 (.inl hj)); rw [e] at this; rw [hq, this]
  · have := stands_mem h' ((he j e).1 (.inr hj)); rw [e] at this; rw [hq, this]
  · rcases stands_or h' id with ⟨j, hj, e, _⟩ | ⟨j, hj, e, _⟩ | ⟨_, _, hq'⟩
    · rcases (he j e).2 (.inl hj) with q | q
      · exact absurd e (h1 j q)
      · exact absurd e (h2 j q)
    · rcases (he j e).2 (.inr hj) with q | q
      · exact absurd e (h1 j q)
      · exact absurd e (h2 j q)
    · rw [hq, hq']
/-! ### Another filter -/
theorem mayK_zero : mayK nameB ⟨zeroV, []⟩ = true := by
  have : plainB ⟨zeroV, []⟩ = ⟨zeroV, []⟩ := rfl
  rw [mayK_iff, this]
  exact ⟨⟨alike_refl _, fun j _ => ⟨by show (0 : Int) ≤ 0; decide, by show (0 : Int) ≤ 1000; decide⟩⟩, fun f hf => by simp at hf⟩
theorem all_mem {s : St} (h : Good s) (i : Itm) : i ∈ bothI behT s.store s.out ↔ (i ∈ s.store ∨ i ∈ s.out) := by
  constructor
  · exact both_mem s.out
  · intro hi
    exact (get_iff (both_rise s.out h.rs)).2 (stands_mem h hi)
/-! ### A state is the same as itself; another count, or epoch, is another state -/
theorem same_st {s : St} (h : Good s) (hf : Pr.same s.f s.f = true) : sameS s s = true := by
  unfold sameS
  rw [hf, alike_refl, sameL_self fun i hi => sameT_real (mayT_feq ((mayLB_iff.1 h.st).1 i hi)).1 (mayT_feq ((mayLB_iff.1 h.st).1 i hi)).2, sameL_self fun i hi => sameT_real (mayT_feq ((mayLB_iff.1 h.ou).1 i hi)).1 (mayT_feq ((mayLB_iff.1 h.ou).1 i hi)).2]
  simp
end Go.Proofs.YtjkcooakddlppaaGreat
