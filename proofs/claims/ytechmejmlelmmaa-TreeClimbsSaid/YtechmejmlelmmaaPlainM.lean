/- Filters made plain: plain mathematics. No walk. -/
import Derived.Test.YtechmejmlelmmaaPr
namespace Go.Proofs.Ytechmejmlelmmaa
set_option linter.unusedVariables false
set_option linter.unusedSimpArgs false
set_option maxRecDepth 100000
namespace Pr

def leaf (op : Int) : Pr := node op ⟨#[]⟩ 0 0 0 []
/-- Kids of Kids that are of the same sort stand in their place. -/
def flat (op : Int) : List Pr → List Pr
  | [] => []
  | k :: l => (if k.op = op then k.kids else [k]) ++ flat op l
/-- Does a stand among them? -/
def twice (l : List Pr) (a : Pr) : Bool := l.any fun b => same b a
def keepFrom (no : Int) : List Pr → List Pr → List Pr
  | _, [] => []
  | pre, a :: l => (if twice pre a = true ∨ a.op = no then [] else [a]) ++ keepFrom no (pre ++ [a]) l
def keep (no : Int) (l : List Pr) : List Pr := keepFrom no [] l
def noOf (op : Int) : Int := if op = 9 then 2 else 1
def hasOp (o : Int) (l : List Pr) : Bool := l.any fun b => decide (b.op = o)
def outOf (op : Int) (t : ByteArray) (n : Int) (x y : Nat) : List Pr → Pr
  | [] => leaf (noOf op)
  | [a] => a
  | l => node op t n x y l
def glue (op : Int) (t : ByteArray) (n : Int) (x y : Nat) (ks : List Pr) : Pr :=
  if hasOp (3 - noOf op) (flat op ks) = true then leaf (3 - noOf op) else outOf op t n x y (keep (noOf op) (flat op ks))
def turn (t : ByteArray) (n : Int) (x y : Nat) : List Pr → Pr
  | [k] => if k.op = 1 ∨ k.op = 2 then leaf (3 - k.op) else if k.op = 10 then k.kids.headD (leaf 0) else node 10 t n x y [k]
  | _ => node 10 t n x y []
def finish (op : Int) (t : ByteArray) (n : Int) (x y : Nat) (ks : List Pr) : Pr :=
  if op = 10 then turn t n x y ks else if op = 8 ∨ op = 9 then glue op t n x y ks else node op t n x y []
mutual
def plain : Pr → Pr | node op t n x y k => finish op t n x y (plains k)
def plains : List Pr → List Pr | [] => [] | k :: l => plain k :: plains l
end

theorem plains_map (l : List Pr) : plains l = l.map plain := by
  induction l with
  | nil => simp [plains]
  | cons k l ih => simp [plains, ih]

/-! ### keep -/
theorem keepFrom_snoc (no : Int) (pre l : List Pr) (a : Pr) : keepFrom no pre (l ++ [a]) = keepFrom no pre l ++ (if twice (pre ++ l) a = true ∨ a.op = no then [] else [a]) := by
  induction l generalizing pre with
  | nil => simp [keepFrom]
  | cons b l ih => simp only [List.cons_append, keepFrom, ih, List.append_assoc]; simp
theorem keep_snoc (no : Int) (l : List Pr) (a : Pr) : keep no (l ++ [a]) = keep no l ++ (if twice l a = true ∨ a.op = no then [] else [a]) := by
  unfold keep; rw [keepFrom_snoc]; simp
theorem keepFrom_mem {no : Int} {pre l : List Pr} {a : Pr} (h : a ∈ keepFrom no pre l) : a ∈ l ∧ a.op ≠ no := by
  induction l generalizing pre with
  | nil => simp [keepFrom] at h
  | cons b l ih =>
    simp only [keepFrom, List.mem_append] at h
    rcases h with h | h
    · split at h
      · simp at h
      · rename_i hn
        simp at h; subst h
        exact ⟨by simp, fun e => hn (.inr e)⟩
    · obtain ⟨h1, h2⟩ := ih h
      exact ⟨by simp [h1], h2⟩
theorem keep_mem {no : Int} {l : List Pr} {a : Pr} (h : a ∈ keep no l) : a ∈ l ∧ a.op ≠ no := keepFrom_mem h
theorem keepFrom_sizes (no : Int) (pre l : List Pr) : sizes (keepFrom no pre l) ≤ sizes l := by
  induction l generalizing pre with
  | nil => simp [keepFrom]
  | cons b l ih =>
    simp only [keepFrom, sizes_append, sizes]
    have := ih (pre ++ [b])
    split <;> simp [sizes] <;> omega
theorem keep_sizes (no : Int) (l : List Pr) : sizes (keep no l) ≤ sizes l := keepFrom_sizes no [] l
theorem twice_false {l : List Pr} {a b : Pr} (h : twice l a = false) (hb : b ∈ l) : same b a = false := by
  unfold twice at h
  rw [List.any_eq_false] at h
  have := h b hb
  simpa using this
theorem keepFrom_pair (no : Int) (pre l : List Pr) : (keepFrom no pre l).Pairwise (fun a b => same a b = false) ∧ ∀ a ∈ pre, ∀ b ∈ keepFrom no pre l, same a b = false := by
  induction l generalizing pre with
  | nil => simp [keepFrom]
  | cons c l ih =>
    obtain ⟨h1, h2⟩ := ih (pre ++ [c])
    simp only [keepFrom]
    split
    · simp only [List.nil_append]
      exact ⟨h1, fun a ha b hb => h2 a (by simp [ha]) b hb⟩
    · rename_i hn
      have hn1 : twice pre c = false := by
        cases e : twice pre c with
        | false => rfl
        | true => exact absurd (.inl e) hn
      refine ⟨?_, fun a ha b hb => ?_⟩
      · rw [List.cons_append, List.nil_append, List.pairwise_cons]
        exact ⟨fun b hb => h2 c (by simp) b hb, h1⟩
      · simp only [List.cons_append, List.nil_append, List.mem_cons] at hb
        rcases hb with rfl | hb
        · exact twice_false hn1 ha
        · exact h2 a (by simp [ha]) b hb
theorem keep_pair (no : Int) (l : List Pr) : (keep no l).Pairwise (fun a b => same a b = false) := (keepFrom_pair no [] l).1
theorem keepFrom_self {no : Int} {pre l : List Pr} (h1 : l.Pairwise (fun a b => same a b = false)) (h2 : ∀ a ∈ pre, ∀ b ∈ l, same a b = false) (h3 : ∀ a ∈ l, a.op ≠ no) : keepFrom no pre l = l := by
  induction l generalizing pre with
  | nil => simp [keepFrom]
  | cons c l ih =>
    rw [List.pairwise_cons] at h1
    have ht : twice pre c = false := by
      unfold twice; rw [List.any_eq_false]
      intro b hb; simp [h2 b hb c (by simp)]
    simp only [keepFrom]
    rw [if_neg (by simp [ht, h3 c (by simp)]), ih h1.2 (fun a ha b hb => ?_) (fun a ha => h3 a (by simp [ha]))]
    · rfl
    · simp only [List.mem_append, List.mem_cons, List.not_mem_nil, or_false] at ha
      rcases ha with ha | rfl
      · exact h2 a ha b (by simp [hb])
      · exact h1.1 b hb

/-! ### flat -/
theorem flat_append (op : Int) (l m : List Pr) : flat op (l ++ m) = flat op l ++ flat op m := by
  induction l with
  | nil => simp [flat]
  | cons k l ih => simp [flat, ih]
theorem flat_mem {op : Int} {l : List Pr} {a : Pr} (h : a ∈ flat op l) : ∃ k ∈ l, (k.op = op ∧ a ∈ k.kids) ∨ (k.op ≠ op ∧ a = k) := by
  induction l with
  | nil => simp [flat] at h
  | cons k l ih =>
    simp only [flat, List.mem_append] at h
    rcases h with h | h
    · split at h
      · exact ⟨k, by simp, .inl ⟨‹_›, h⟩⟩
      · simp at h; exact ⟨k, by simp, .inr ⟨‹_›, h⟩⟩
    · obtain ⟨k', h1, h2⟩ := ih h
      exact ⟨k', by simp [h1], h2⟩
theorem size_kids (k : Pr) : k.size = 1 + sizes k.kids := by cases k; simp [size, kids]
theorem depth_kids (k : Pr) : k.depth = 1 + depths k.kids := by cases k; simp [depth, kids]
theorem all_kids {k : Pr} (h : k.all = true) : alls k.kids = true := by
  cases k; simp only [all, Bool.and_eq_true] at h; exact h.2
theorem flat_sizes (op : Int) (l : List Pr) : sizes (flat op l) ≤ sizes l := by
  induction l with
  | nil => simp [flat]
  | cons k l ih =>
    simp only [flat, sizes_append, sizes]
    have := size_kids k
    split <;> simp [sizes] <;> omega
theorem flat_self {op : Int} {l : List Pr} (h : ∀ k ∈ l, k.op ≠ op) : flat op l = l := by
  induction l with
  | nil => simp [flat]
  | cons k l ih => simp [flat, h k (by simp), ih fun a ha => h a (by simp [ha])]
theorem depths_le {l : List Pr} {d : Nat} : depths l ≤ d ↔ ∀ k ∈ l, k.depth ≤ d := by
  induction l with
  | nil => simp [depths]
  | cons a l ih => simp [depths, ← ih]; omega
theorem alls_iff {l : List Pr} : alls l = true ↔ ∀ k ∈ l, k.all = true := by
  induction l with
  | nil => simp [alls]
  | cons a l ih => simp [alls, ih]
theorem flat_depths (op : Int) (l : List Pr) : depths (flat op l) ≤ depths l := by
  rw [depths_le]
  intro a ha
  obtain ⟨k, hk, h | h⟩ := flat_mem ha
  · have h1 := depth_mem h.2
    have h2 := depth_kids k
    have h3 := depth_mem hk
    omega
  · rw [h.2]; exact depth_mem hk
theorem flat_all {op : Int} {l : List Pr} (h : alls l = true) : alls (flat op l) = true := by
  rw [alls_iff] at *
  intro a ha
  obtain ⟨k, hk, e | e⟩ := flat_mem ha
  · exact alls_iff.1 (all_kids (h k hk)) a e.2
  · rw [e.2]; exact h k hk

/-! ### plain: no larger, no deeper, may be -/
theorem noOf_cases (op : Int) : noOf op = 1 ∨ noOf op = 2 := by unfold noOf; split <;> simp
theorem leaf_size (o : Int) : (leaf o).size = 1 := by simp [leaf, size, sizes]
theorem leaf_depth (o : Int) : (leaf o).depth = 1 := by simp [leaf, depth, depths]
theorem leaf_all {o : Int} (h : o = 1 ∨ o = 2) : (leaf o).all = true := by rcases h with rfl | rfl <;> decide +kernel
theorem partB_len {op : Int} (t : ByteArray) (n : Int) (x y a b : Nat) (h : op = 8 ∨ op = 9) : partB op t n x y a = partB op t n x y b := by rcases h with rfl | rfl <;> simp [partB]

theorem outOf_size (op : Int) (t : ByteArray) (n : Int) (x y : Nat) (l : List Pr) : (outOf op t n x y l).size ≤ 1 + sizes l := by
  unfold outOf; split
  · rw [leaf_size]; omega
  · simp [sizes]
  · simp [size]
theorem outOf_depth (op : Int) (t : ByteArray) (n : Int) (x y : Nat) (l : List Pr) : (outOf op t n x y l).depth ≤ 1 + depths l := by
  unfold outOf; split
  · rw [leaf_depth]; omega
  · simp [depths]
  · simp [depth]
theorem outOf_all {op : Int} {t : ByteArray} {n : Int} {x y : Nat} {l : List Pr} (ho : op = 8 ∨ op = 9) (hp : partB op t n x y 0 = true) (h : alls l = true) : (outOf op t n x y l).all = true := by
  unfold outOf; split
  · exact leaf_all (noOf_cases op)
  · simpa [alls] using h
  · simp only [all]; rw [partB_len t n x y _ 0 ho, hp, h]; rfl
theorem glue_size (op : Int) (t : ByteArray) (n : Int) (x y : Nat) (ks : List Pr) : (glue op t n x y ks).size ≤ 1 + sizes ks := by
  unfold glue; split
  · rw [leaf_size]; omega
  · have h1 := outOf_size op t n x y (keep (noOf op) (flat op ks))
    have h2 := keep_sizes (noOf op) (flat op ks)
    have h3 := flat_sizes op ks
    omega
theorem keep_depths (no : Int) (l : List Pr) : depths (keep no l) ≤ depths l := by
  rw [depths_le]; intro a ha; exact depth_mem (keep_mem ha).1
theorem keep_all {no : Int} {l : List Pr} (h : alls l = true) : alls (keep no l) = true := by
  rw [alls_iff] at *; intro a ha; exact h a (keep_mem ha).1
theorem glue_depth (op : Int) (t : ByteArray) (n : Int) (x y : Nat) (ks : List Pr) : (glue op t n x y ks).depth ≤ 1 + depths ks := by
  unfold glue; split
  · rw [leaf_depth]; omega
  · have h1 := outOf_depth op t n x y (keep (noOf op) (flat op ks))
    have h2 := keep_depths (noOf op) (flat op ks)
    have h3 := flat_depths op ks
    omega
theorem glue_all {op : Int} {t : ByteArray} {n : Int} {x y : Nat} {ks : List Pr} (ho : op = 8 ∨ op = 9) (hp : partB op t n x y 0 = true) (h : alls ks = true) : (glue op t n x y ks).all = true := by
  unfold glue; split
  · exact leaf_all (by have := noOf_cases op; omega)
  · exact outOf_all ho hp (keep_all (flat_all h))

theorem part10 {t : ByteArray} {n : Int} {x y k : Nat} (h : partB 10 t n x y k = true) : k = 1 := by
  simp [partB] at h; exact h.1
theorem part_leaf {op : Int} {t : ByteArray} {n : Int} {x y k : Nat} (h8 : op ≠ 8) (h9 : op ≠ 9) (h10 : op ≠ 10) (h : partB op t n x y k = true) : k = 0 := by
  have e8 : ¬ (op = 8 ∨ op = 9) := by omega
  unfold partB at h
  simp only [if_neg e8, if_neg h10] at h
  split at h
  · simp [bareB] at h; simp_all
  split at h
  · simp [bareB] at h; simp_all
  split at h
  · simp [bareB] at h; simp_all
  split at h
  · simp [bareB] at h; simp_all
  · cases h

/-- What is plain. -/
inductive IsPl : Pr → Prop where
  | mk (op : Int) (t : ByteArray) (n : Int) (x y : Nat) (kids : List Pr) (h1 : op ≠ 8 → op ≠ 9 → op ≠ 10 → kids = []) (h2 : op = 10 → ∃ k, kids = [k] ∧ k.op ≠ 1 ∧ k.op ≠ 2 ∧ k.op ≠ 10)
      (h3 : op = 8 ∨ op = 9 → 2 ≤ kids.length ∧ (∀ k ∈ kids, k.op ≠ op ∧ k.op ≠ 1 ∧ k.op ≠ 2) ∧ kids.Pairwise (fun a b => same a b = false)) (h : ∀ k ∈ kids, IsPl k) : IsPl (node op t n x y kids)

theorem IsPl.kid {p k : Pr} (h : IsPl p) (hk : k ∈ p.kids) : IsPl k := by
  cases h with
  | mk op t n x y kids h1 h2 h3 h => exact h k hk
theorem IsPl.not {p : Pr} (h : IsPl p) (ho : p.op = 10) : ∃ k, p.kids = [k] ∧ k.op ≠ 1 ∧ k.op ≠ 2 ∧ k.op ≠ 10 := by
  cases h with
  | mk op t n x y kids h1 h2 h3 h => exact h2 ho
theorem IsPl.many {p : Pr} (h : IsPl p) (ho : p.op = 8 ∨ p.op = 9) : 2 ≤ p.kids.length ∧ (∀ k ∈ p.kids, k.op ≠ p.op ∧ k.op ≠ 1 ∧ k.op ≠ 2) ∧ p.kids.Pairwise (fun a b => same a b = false) := by
  cases h with
  | mk op t n x y kids h1 h2 h3 h => exact h3 ho
theorem leaf_pl {o : Int} (h8 : o ≠ 8) (h9 : o ≠ 9) (h10 : o ≠ 10) : IsPl (leaf o) :=
  .mk o _ _ _ _ [] (fun _ _ _ => rfl) (fun e => absurd e h10) (fun e => by rcases e with e | e <;> contradiction) (fun k hk => by simp at hk)

theorem hasOp_false {o : Int} {l : List Pr} (h : ¬ hasOp o l = true) : ∀ k ∈ l, k.op ≠ o := by
  intro k hk e
  apply h
  unfold hasOp
  rw [List.any_eq_true]
  exact ⟨k, hk, by simp [e]⟩

theorem glue_pl {op : Int} {t : ByteArray} {n : Int} {x y : Nat} {ks : List Pr} (ho : op = 8 ∨ op = 9) (h : ∀ k ∈ ks, IsPl k) : IsPl (glue op t n x y ks) := by
  have hn := noOf_cases op
  unfold glue; split
  · exact leaf_pl (by omega) (by omega) (by omega)
  · rename_i hh
    have hf := hasOp_false hh
    have hfl : ∀ a ∈ flat op ks, IsPl a ∧ a.op ≠ op := by
      intro a ha
      obtain ⟨k, hk, e | e⟩ := flat_mem ha
      · have hm := (h k hk).many (by omega)
        exact ⟨(h k hk).kid e.2, by have := (hm.2.1 a e.2).1; omega⟩
      · rw [e.2]; exact ⟨h k hk, e.1⟩
    have hk : ∀ a ∈ keep (noOf op) (flat op ks), IsPl a ∧ a.op ≠ op ∧ a.op ≠ 1 ∧ a.op ≠ 2 := by
      intro a ha
      obtain ⟨h1, h2⟩ := keep_mem ha
      have h3 := hf a h1
      have h4 := hfl a h1
      exact ⟨h4.1, h4.2, by omega, by omega⟩
    have hp := keep_pair (noOf op) (flat op ks)
    revert hk hp
    generalize keep (noOf op) (flat op ks) = l
    intro hk hp
    match l, hk, hp with
    | [], _, _ => exact leaf_pl (by omega) (by omega) (by omega)
    | [a], hk, _ => exact (hk a (by simp)).1
    | a :: b :: l, hk, hp =>
      exact .mk op t n x y _ (fun e8 e9 => by omega) (fun e => by omega) (fun _ => ⟨by simp, fun k hk' => (hk k hk').2, hp⟩) (fun k hk' => (hk k hk').1)

theorem plain_good : ∀ p : Pr, p.all = true → IsPl p.plain ∧ p.plain.all = true ∧ p.plain.size ≤ p.size ∧ p.plain.depth ≤ p.depth := by
  intro p
  induction p using ind with
  | h op t n x y k ih =>
    intro ha
    simp only [all, Bool.and_eq_true] at ha
    have hk : ∀ a ∈ plains k, IsPl a ∧ a.all = true := by
      intro a h
      rw [plains_map, List.mem_map] at h
      obtain ⟨b, hb, rfl⟩ := h
      have := ih b hb (all_mem hb ha.2)
      exact ⟨this.1, this.2.1⟩
    have hs : sizes (plains k) ≤ sizes k ∧ depths (plains k) ≤ depths k := by
      have h2 := ha.2
      clear ha hk
      induction k with
      | nil => simp [plains]
      | cons a l ihl =>
        simp only [alls, Bool.and_eq_true] at h2
        have h3 := ih a (by simp) h2.1
        have h4 := ihl (fun b hb => ih b (by simp [hb])) h2.2
        simp only [plains, sizes, depths]
        omega
    have hal : alls (plains k) = true := alls_iff.2 fun a h => (hk a h).2
    simp only [plain, size, depth]
    unfold finish
    split
    · rename_i e10
      subst e10
      have hl := part10 ha.1
      have : ∃ a, k = [a] := by
        match k, hl with
        | [a], _ => exact ⟨a, rfl⟩
      obtain ⟨a, rfl⟩ := this
      simp only [plains] at hk hs hal ⊢
      have hA := hk a.plain (by simp)
      simp only [turn]
      split
      · rename_i h12
        refine ⟨leaf_pl (by omega) (by omega) (by omega), leaf_all (by omega), ?_, ?_⟩
        · rw [leaf_size]; omega
        · rw [leaf_depth]; omega
      split
      · rename_i h12 h10
        obtain ⟨c, hc, _⟩ := hA.1.not h10
        have hkc : c ∈ a.plain.kids := by rw [hc]; simp
        rw [hc]
        simp only [List.headD]
        have h1 := size_kids a.plain
        have h2 := depth_kids a.plain
        rw [hc] at h1 h2
        simp only [sizes, depths] at h1 h2 hs
        have h3 := all_kids hA.2
        rw [hc] at h3
        simp only [alls, Bool.and_true] at h3
        refine ⟨hA.1.kid hkc, h3, ?_, ?_⟩
        · simp only [sizes]; omega
        · simp only [depths]; omega
      · rename_i h12 h10
        refine ⟨.mk 10 t n x y _ (fun _ _ e => absurd rfl e) (fun _ => ⟨_, rfl, by omega, by omega, h10⟩) (fun e => by omega) (fun b hb => (hk b hb).1), ?_, ?_, ?_⟩
        · simp only [all]
          rw [hal, Bool.and_true]; exact ha.1
        · simp only [size]; omega
        · simp only [depth]; omega
    split
    · rename_i h10 h89
      refine ⟨glue_pl h89 fun a h => (hk a h).1, glue_all h89 (by rw [partB_len t n x y 0 k.length h89]; exact ha.1) hal, ?_, ?_⟩
      · have := glue_size op t n x y (plains k); omega
      · have := glue_depth op t n x y (plains k); omega
    · rename_i h10 h89
      have hl := part_leaf (by omega) (by omega) h10 ha.1
      have : k = [] := List.length_eq_zero_iff.1 hl
      subst this
      exact ⟨.mk op t n x y [] (fun _ _ _ => rfl) (fun e => absurd e h10) (fun e => absurd e h89) (fun b hb => by simp at hb), by simp only [all]; rw [ha.1]; rfl, by simp [size, sizes], by simp [depth, depths]⟩

theorem plain_fix : ∀ q : Pr, IsPl q → q.plain = q := by
  intro q
  induction q using ind with
  | h op t n x y k ih =>
    intro hp
    cases hp with
    | mk _ _ _ _ _ _ h1 h2 h3 h =>
      have hk : plains k = k := by
        clear h1 h2 h3
        induction k with
        | nil => simp [plains]
        | cons a l ihl =>
          simp only [plains]
          rw [ih a (by simp) (h a (by simp)), ihl (fun b hb => ih b (by simp [hb])) (fun b hb => h b (by simp [hb]))]
      simp only [plain]
      rw [hk]
      unfold finish
      split
      · rename_i e10
        subst e10
        obtain ⟨c, rfl, hc1, hc2, hc3⟩ := h2 rfl
        simp only [turn]
        rw [if_neg (by omega), if_neg hc3]
      split
      · rename_i h10 h89
        obtain ⟨hl, hm, hpw⟩ := h3 h89
        unfold glue
        rw [flat_self fun a ha => (hm a ha).1]
        have hn := noOf_cases op
        rw [if_neg, keep, keepFrom_self hpw (fun a ha => by simp at ha) (fun a ha => by have := hm a ha; omega)]
        · match k, hl with
          | a :: b :: l, _ => rfl
        · unfold hasOp
          rw [List.any_eq_true]
          rintro ⟨a, ha, e⟩
          simp at e
          have := hm a ha
          omega
      · rename_i h10 h89
        rw [h1 (by omega) (by omega) h10]
end Pr

end Go.Proofs.Ytechmejmlelmmaa
