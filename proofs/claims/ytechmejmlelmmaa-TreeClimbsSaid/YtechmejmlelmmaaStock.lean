/- Rows of filters that a call owns, several of them. No walk. -/
import Derived.Test.YtechmejmlelmmaaLies
import Derived.Test.YtechmejmlelmmaaOwn
namespace Go.Proofs.Ytechmejmlelmmaa
set_option linter.unusedVariables false
set_option linter.unusedSimpArgs false
set_option maxRecDepth 100000
open Go.RowKit

/-- The cells of filters, one behind the other. -/
def newsOf (V : Nat → Value) : Nat → List Pr → List Value
  | _, [] => []
  | s, p :: l => pc p (V s) ++ newsOf V (s + 1) l
theorem pc_len (p : Pr) (v : Value) : (pc p v).length = 5 := rfl
theorem news_len (V : Nat → Value) (s : Nat) (l : List Pr) : (newsOf V s l).length = l.length * 5 := by
  induction l generalizing s with
  | nil => rfl
  | cons p l ih => simp only [newsOf, List.length_append, ih, pc_len, List.length_cons]; omega
theorem news_get (V : Nat → Value) (s : Nat) (l : List Pr) (i : Nat) (p : Pr) (hp : l[i]? = some p) (j : Nat) (hj : j < 5) : (newsOf V s l)[i * 5 + j]? = (pc p (V (s + i)))[j]? := by
  induction l generalizing s i with
  | nil => simp at hp
  | cons q l ih =>
    cases i with
    | zero =>
      simp at hp; subst hp
      simp only [newsOf, Nat.zero_mul, Nat.zero_add, Nat.add_zero]
      rw [List.getElem?_append_left (by rw [pc_len]; exact hj)]
    | succ i =>
      simp at hp
      simp only [newsOf]
      rw [List.getElem?_append_right (by rw [pc_len]; omega), pc_len, show (i + 1) * 5 + j - 5 = i * 5 + j by omega, ih (s + 1) i hp, show s + 1 + i = s + (i + 1) by omega]
theorem news_mem {V : Nat → Value} {s : Nat} {l : List Pr} (h : ∀ i p, l[i]? = some p → (V (s + i)).oneCell' = true) : ∀ u ∈ newsOf V s l, u.oneCell' = true := by
  induction l generalizing s with
  | nil => simp [newsOf]
  | cons p l ih =>
    intro u hu
    simp only [newsOf, List.mem_append] at hu
    rcases hu with hu | hu
    · exact pc_one (h 0 p rfl) u hu
    · exact ih (s := s + 1) (fun i q hq => by have := h (i + 1) q (by simpa using hq); rwa [show s + 1 + i = s + (i + 1) by omega]) u hu
theorem news_congr {V W : Nat → Value} {s s' : Nat} {l : List Pr} (h : ∀ i, i < l.length → V (s + i) = W (s' + i)) : newsOf V s l = newsOf W s' l := by
  induction l generalizing s s' with
  | nil => rfl
  | cons p l ih =>
    simp only [newsOf]
    rw [show V s = W s' from h 0 (by simp), ih (fun i hi => by have := h (i + 1) (by simp; omega); rwa [show s + (i + 1) = s + 1 + i by omega, show s' + (i + 1) = s' + 1 + i by omega] at this)]
theorem news_app (V : Nat → Value) (s : Nat) (l m : List Pr) : newsOf V s (l ++ m) = newsOf V s l ++ newsOf V (s + l.length) m := by
  induction l generalizing s with
  | nil => simp [newsOf]
  | cons p l ih => simp only [List.cons_append, newsOf, ih, List.append_assoc, List.length_cons]; rw [show s + 1 + l.length = s + (l.length + 1) by omega]
def glueV (n : Nat) (V W : Nat → Value) : Nat → Value := fun i => if i < n then V i else W (i - n)
theorem news_glue (V W : Nat → Value) (l m : List Pr) : newsOf V 0 l ++ newsOf W 0 m = newsOf (glueV l.length V W) 0 (l ++ m) := by
  rw [news_app]
  congr 1
  · exact news_congr fun i hi => by simp [glueV, hi]
  · refine news_congr fun i hi => ?_
    simp only [glueV, Nat.zero_add]
    rw [if_neg (by omega), show l.length + i - l.length = i by omega]

/-- A row that the call owns, whose filters' Kids lie in blocks of S. -/
def PRow (w : World) (base : Nat) (S : Nat → Prop) (l : List Pr) (v : Value) (V : Nat → Value) : Prop :=
  w.ownsRow base 37 5 v l.length (newsOf V 0 l) ∧ ∀ i p, l[i]? = some p → Lies 5 pc S w p (V i)

/-- Own rows: of each what it holds, the slice, the Kids' slices. -/
structure Rw where
  l : List Pr
  v : Value
  V : Nat → Value
def Rw.nil : Rw := ⟨[], .slice .none 0 0, fun _ => .nilFunc⟩
def Sof (w : World) (base : Nat) (R : Nat → Rw) (b : Nat) : Prop := base ≤ b ∧ b < w.heap.size ∧ ∀ i, some b ≠ (R i).v.ownBlock
/-- Several own rows, apart from each other and from all that their filters reach. -/
structure Stock (w : World) (base : Nat) (R : Nat → Rw) : Prop where
  row : ∀ i, PRow w base (Sof w base R) (R i).l (R i).v (R i).V
  apart : ∀ i j, i ≠ j → (R i).v.ownBlock = none ∨ (R i).v.ownBlock ≠ (R j).v.ownBlock

theorem Stock.empty (w : World) (base : Nat) : Stock w base fun _ => Rw.nil :=
  ⟨fun _ => ⟨World.ownsRow_nil _ _ _ _, fun i p h => by simp [Rw.nil] at h⟩, fun _ _ _ => .inl rfl⟩

/-- A step that turns none of their blocks. -/
theorem Stock.kept {w w' : World} {base : Nat} {R : Nat → Rw} (h : Stock w base R) (hb : ∀ b, base ≤ b → b < w.heap.size → w'.heap[b]? = w.heap[b]?) (hs : w.heap.size ≤ w'.heap.size) : Stock w' base R := by
  refine ⟨fun i => ⟨?_, fun j p hp => ?_⟩, h.apart⟩
  · obtain ⟨h1, h2⟩ := (h.row i).1
    refine ⟨h1, ?_⟩
    rcases h2 with h2 | ⟨g, cap, cur, hv, hg, hh, r⟩
    · exact .inl h2
    · have hlt := ((h.row i).1.lt g (by rw [hv]; rfl)).2
      exact .inr ⟨g, cap, cur, hv, hg, by rw [hb g hg hlt]; exact hh, r⟩
  · exact ((h.row i).2 j p hp).mono (fun b o hS => World.cell?_of_block (hb b hS.1 hS.2.1)) fun b hS => ⟨hS.1, Nat.lt_of_lt_of_le hS.2.1 hs, hS.2.2⟩
theorem Stock.later {w w' : World} {base : Nat} {R : Nat → Rw} (h : Stock w base R) (hb : Below w.heap.size w w') : Stock w' base R := h.kept (fun b _ hl => hb.block b hl) hb.size
theorem Stock.alloc {w : World} {base : Nat} {R : Nat → Rw} (h : Stock w base R) (o : Obj) : Stock (w.alloc o) base R := h.later ((Below.refl _ _).alloc (Nat.le_refl _) _)
theorem Stock.drew {w : World} {base : Nat} {R : Nat → Rw} (h : Stock w base R) : Stock w.drew base R := h.later (Below.refl _ _).drew
theorem Stock.setLow {w : World} {base : Nat} {R : Nat → Rw} (h : Stock w base R) (p : Addr) (v : Value) (hp : p.block < base) : Stock (w.setCell p v) base R :=
  h.kept (fun b hb _ => Below.heap_setCell _ _ _ _ (by omega)) (by simp [World.setCell])

def upd (R : Nat → Rw) (i : Nat) (r : Rw) : Nat → Rw := fun j => if j = i then r else R j
theorem upd_same (R : Nat → Rw) (i : Nat) (r : Rw) : upd R i r i = r := by simp [upd]
theorem upd_far (R : Nat → Rw) {i j : Nat} (r : Rw) (h : j ≠ i) : upd R i r j = R j := by simp [upd, h]

/-- Behind an append to row i. -/
theorem Stock.push {w w' : World} {base : Nat} {R : Nat → Rw} (h : Stock w base R) (i : Nat) (m : List Pr) (W : Nat → Value) (hm : ∀ j p, m[j]? = some p → Lies 5 pc (Sof w base R) w p (W j)) {g cap n : Nat} (hn : n = (R i).l.length + m.length)
    (hown : w'.ownsRow base 37 5 (.slice (some ⟨g, 0, none⟩) n cap) n (newsOf (R i).V 0 (R i).l ++ newsOf W 0 m)) (hgrow : w.grownBy w' (R i).v.ownBlock) (hat : (R i).v.ownBlock = some g ∨ g = w.heap.size) :
    Stock w' base (upd R i ⟨(R i).l ++ m, .slice (some ⟨g, 0, none⟩) n cap, glueV (R i).l.length (R i).V W⟩) := by
  subst hn
  have hlt : ∀ j k, (R j).v.ownBlock = some k → k < w.heap.size := fun j k hk => ((h.row j).1.lt k hk).2
  have hne : ∀ j, j ≠ i → (R j).v.ownBlock ≠ some g := by
    intro j hj e
    rcases hat with h1 | h1
    · rcases h.apart j i hj with h2 | h2
      · rw [h2] at e; cases e
      · exact h2 (by rw [e, h1])
    · have := hlt j g e; omega
  have hS : ∀ b, Sof w base R b → Sof w' base (upd R i ⟨(R i).l ++ m, .slice (some ⟨g, 0, none⟩) ((R i).l.length + m.length) cap, glueV (R i).l.length (R i).V W⟩) b := by
    intro b hb
    refine ⟨hb.1, Nat.lt_of_lt_of_le hb.2.1 hgrow.size, fun j => ?_⟩
    by_cases e : j = i
    · subst e
      rw [upd_same]
      simp only [Value.ownBlock, ne_eq, Option.some.injEq]
      intro e
      rcases hat with h1 | h1
      · exact hb.2.2 j (by rw [h1, e])
      · have := hb.2.1; omega
    · rw [upd_far _ _ e]; exact hb.2.2 j
  have hc : ∀ b o, Sof w base R b → w'.cell? ⟨b, o, none⟩ = w.cell? ⟨b, o, none⟩ := fun b o hb => hgrow.cell_far _ hb.2.1 (hb.2.2 i)
  refine ⟨fun j => ?_, fun j k hjk => ?_⟩
  · by_cases e : j = i
    · subst e
      rw [upd_same]
      refine ⟨?_, fun a p hp => ?_⟩
      · simp only [List.length_append]
        rw [← news_glue]; exact hown
      · simp only at hp ⊢
        by_cases ha : a < (R j).l.length
        · rw [List.getElem?_append_left ha] at hp
          have : glueV (R j).l.length (R j).V W a = (R j).V a := by simp [glueV, ha]
          rw [this]
          exact ((h.row j).2 a p hp).mono hc hS
        · rw [List.getElem?_append_right (by omega)] at hp
          have : glueV (R j).l.length (R j).V W a = W (a - (R j).l.length) := by simp [glueV, ha]
          rw [this]
          exact (hm _ p hp).mono hc hS
    · rw [upd_far _ _ e]
      refine ⟨(h.row j).1.kept hgrow (h.apart j i e), fun a p hp => ((h.row j).2 a p hp).mono hc hS⟩
  · by_cases e : j = i
    · subst e
      rw [upd_same, upd_far _ _ (fun e => hjk e.symm)]
      exact .inr fun e => hne k (fun e => hjk e.symm) (by rw [← e]; rfl)
    · rw [upd_far _ _ e]
      by_cases e' : k = i
      · subst e'
        rw [upd_same]
        exact .inr fun e2 => hne j e (by rw [e2]; rfl)
      · rw [upd_far _ _ e']; exact h.apart j k hjk

/-- What one row reads as. -/
theorem Stock.slice {w : World} {base : Nat} {R : Nat → Rw} (h : Stock w base R) (i : Nat) : ∃ (oa : Option Addr) (cap g : Nat), (R i).v = .slice oa (R i).l.length cap ∧ (R i).l.length ≤ cap ∧ cap ≤ maxLen ∧ (0 < (R i).l.length → oa = some ⟨g, 0, none⟩ ∧ base ≤ g ∧ g < w.heap.size) := row_slice (h.row i).1
theorem Stock.at {w : World} {base : Nat} {R : Nat → Rw} (h : Stock w base R) (i : Nat) {g n cap k : Nat} {p : Pr} (hv : (R i).v = .slice (some ⟨g, 0, none⟩) n cap) (hp : (R i).l[k]? = some p) :
    (w.cell? ⟨g, k * 5, none⟩ = some (.int .i64 p.op) ∧ w.cell? ⟨g, k * 5 + 1, none⟩ = some (.string p.text) ∧ w.cell? ⟨g, k * 5 + 2, none⟩ = some (.int .i64 p.n) ∧ w.cell? ⟨g, k * 5 + 3, none⟩ = some (.complex .f64 p.x p.y) ∧ w.cell? ⟨g, k * 5 + 4, none⟩ = some ((R i).V k)) ∧
      Lies 5 pc (Sof w base R) w p ((R i).V k) := by
  have h1 := (h.row i).1
  have hn : n = (R i).l.length := by
    obtain ⟨oa, cap', g', e, _⟩ := row_slice h1
    rw [hv] at e; cases e; rfl
  subst hn
  rw [hv] at h1
  have hk := some_pos hp
  have c : ∀ j u, (pc p ((R i).V k))[j]? = some u → w.cell? ⟨g, k * 5 + j, none⟩ = some u := by
    intro j u hu
    have hj : j < 5 := by have := (List.getElem?_eq_some_iff.1 hu).1; rwa [pc_len] at this
    rw [h1.cellAt (k * 5 + j) (by omega), news_get _ _ _ _ _ hp _ hj, Nat.zero_add, hu]
  exact ⟨⟨c 0 _ rfl, c 1 _ rfl, c 2 _ rfl, c 3 _ rfl, c 4 _ rfl⟩, (h.row i).2 k p hp⟩
/-- A row, handed out as Kids. -/
theorem Stock.lies {w : World} {base B : Nat} {R : Nat → Rw} (h : Stock w base R) (i : Nat) (hB : B ≤ base) (op : Int) (t : ByteArray) (n : Int) (x y : Nat) (ht : t.size ≤ maxLen) : Lies 5 pc (fun b => B ≤ b ∧ b < w.heap.size) w (.node op t n x y (R i).l) (R i).v := by
  obtain ⟨oa, cap, g, e, h1, h2, hg⟩ := h.slice i
  rw [e]
  refine .mk op t n x y _ oa cap g 0 (R i).V ht h1 h2 (fun hp => ⟨(hg hp).1, by have := (hg hp).2; omega⟩) (fun k p hp j u hu => ?_) fun k p hp => ?_
  · obtain ⟨rfl, _⟩ := hg (by have := some_pos hp; omega)
    obtain ⟨⟨a0, a1, a2, a3, a4⟩, _⟩ := h.at i e hp
    rw [Nat.zero_add]
    match j, hu with
    | 0, hu => cases hu; exact a0
    | 1, hu => cases hu; exact a1
    | 2, hu => cases hu; exact a2
    | 3, hu => cases hu; exact a3
    | 4, hu => cases hu; exact a4
  · exact ((h.row i).2 k p hp).mono (fun _ _ _ => rfl) fun b hS => ⟨Nat.le_trans hB hS.1, hS.2.1⟩
theorem Sof_low {w : World} {base B : Nat} {R : Nat → Rw} (hB : B ≤ base) : ∀ b, Sof w base R b → B ≤ b ∧ b < w.heap.size := fun _ h => ⟨Nat.le_trans hB h.1, h.2.1⟩
/-- What a callee has made lies apart from all rows. -/
theorem fresh_apart {w w' : World} {base : Nat} {R : Nat → Rw} (h : Stock w base R) (hb : base ≤ w.heap.size) {p : Pr} {v : Value} (hl : Lies 5 pc (fun b => w.heap.size ≤ b ∧ b < w'.heap.size) w' p v) : Lies 5 pc (Sof w' base R) w' p v :=
  hl.mono (fun _ _ _ => rfl) fun b hS => ⟨Nat.le_trans hb hS.1, hS.2, fun i e => by have := ((h.row i).1.lt b e.symm).2; have := hS.1; omega⟩

end Go.Proofs.Ytechmejmlelmmaa
