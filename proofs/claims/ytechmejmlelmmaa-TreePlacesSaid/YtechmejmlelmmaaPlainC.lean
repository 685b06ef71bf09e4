/- Filters made plain, as the code does it: plain mathematics. No walk. -/
import Derived.Test.YtechmejmlelmmaaHasM
namespace Go.Proofs.Ytechmejmlelmmaa
set_option linter.unusedVariables false
set_option linter.unusedSimpArgs false
set_option maxRecDepth 100000

/-! ### What is the same as the same is the same -/
namespace Fl
open Ieee
theorem signed_more (s : Bool) (m a b : Nat) : signed s m (a + b) = signed s m a * 2 ^ b := by
  unfold signed
  rw [Nat.shiftLeft_eq, Nat.shiftLeft_eq, Nat.pow_add, ← Nat.mul_assoc]
  cases s <;> simp [Int.neg_mul]
theorem inf_same {s t : Bool} (h : (if s = t then Ordering.eq else if s = true then Ordering.lt else Ordering.gt) = Ordering.eq) : s = t := by
  cases s <;> cases t <;> first | rfl | (revert h; decide)
theorem order_trans {a b c : Nat} (h1 : f64.order a b = some .eq) (h2 : f64.order b c = some .eq) : f64.order a c = some .eq := by
  unfold Format.order at *
  revert h1 h2
  generalize f64.read a = x
  generalize f64.read b = y
  generalize f64.read c = z
  intro h1 h2
  cases x <;> cases y <;> cases z <;> simp only [Datum.order, Option.some.injEq, reduceCtorEq] at h1 h2 ⊢
  · rename_i s m i t n j u o k
    rw [Int.compare_eq_eq] at *
    have e1 := congrArg (· * (2 : Int) ^ (min i j - min (min i j) k).toNat) h1
    have e2 := congrArg (· * (2 : Int) ^ (min j k - min (min i j) k).toNat) h2
    simp only [← signed_more] at e1 e2
    rw [show (i - min i j).toNat + (min i j - min (min i j) k).toNat = (i - min (min i j) k).toNat by omega, show (j - min i j).toNat + (min i j - min (min i j) k).toNat = (j - min (min i j) k).toNat by omega] at e1
    rw [show (j - min j k).toNat + (min j k - min (min i j) k).toNat = (j - min (min i j) k).toNat by omega, show (k - min j k).toNat + (min j k - min (min i j) k).toNat = (k - min (min i j) k).toNat by omega] at e2
    have e3 := e1.trans e2
    rw [show (i - min (min i j) k).toNat = (i - min i k).toNat + (min i k - min (min i j) k).toNat by omega, show (k - min (min i j) k).toNat = (k - min i k).toNat + (min i k - min (min i j) k).toNat by omega, signed_more, signed_more] at e3
    exact Int.eq_of_mul_eq_mul_right (Int.ne_of_gt (two_pos _)) e3
  all_goals first
    | (split at h1 <;> cases h1; done)
    | (split at h2 <;> cases h2; done)
    | (rename_i s t u; cases s <;> cases t <;> cases u <;> first | rfl | (revert h1 h2; decide))
end Fl
theorem feq_trans {a b c : Nat} (h1 : feq a b = true) (h2 : feq b c = true) : feq a c = true := by
  unfold feq at *
  have e1 : Fl.f64.order a b = some .eq := eq_of_beq h1
  have e2 : Fl.f64.order b c = some .eq := eq_of_beq h2
  have e3 : FloatKind.f64.format.order a c = some .eq := Fl.order_trans e1 e2
  rw [e3]; rfl
theorem feq_swap {a b : Nat} (h1 : feq a b = true) : feq b a = true := by
  unfold feq at *
  have e1 : Fl.f64.order a b = some .eq := eq_of_beq h1
  have e3 : FloatKind.f64.format.order b a = some .eq := Fl.order_swap e1
  rw [e3]; rfl

namespace Pr
theorem same_trans : ∀ p q r : Pr, same p q = true → same q r = true → same p r = true := by
  intro p
  induction p using ind with
  | h op t n x y k ih =>
    rintro ⟨op', t', n', x', y', k'⟩ ⟨op2, t2, n2, x2, y2, k2⟩ h1 h2
    simp only [same, Bool.and_eq_true, decide_eq_true_eq] at *
    refine ⟨h1.1.trans h2.1, h1.2.1.trans h2.2.1, h1.2.2.1.trans h2.2.2.1, ⟨feq_trans h1.2.2.2.1.1 h2.2.2.2.1.1, feq_trans h1.2.2.2.1.2 h2.2.2.2.1.2⟩, ?_⟩
    have e1 := h1.2.2.2.2
    have e2 := h2.2.2.2.2
    clear h1 h2
    induction k generalizing k' k2 with
    | nil => cases k' with
      | nil => exact e2
      | cons b m => simp [sames] at e1
    | cons a l ihl => cases k' with
      | nil => simp [sames] at e1
      | cons b m => cases k2 with
        | nil => simp [sames] at e2
        | cons c o =>
          simp only [sames, Bool.and_eq_true] at *
          exact ⟨ih a (by simp) b c e1.1 e2.1, ihl (fun c hc => ih c (by simp [hc])) m o e1.2 e2.2⟩
theorem same_op {p q : Pr} (h : same p q = true) : p.op = q.op := by
  cases p; cases q; simp only [same, Bool.and_eq_true, decide_eq_true_eq] at h; exact h.1

/-! ### The code's words -/
/-- Those of m that don't stand in l. -/
def addC (l m : List Pr) : List Pr := l ++ m.filter fun k => !twice l k
def mergeC (op no ru : Int) (t : ByteArray) (n : Int) (x y : Nat) : List Pr → List Pr → Pr
  | l, [] => match l with
    | [] => leaf no
    | [a] => a
    | l => node op t n x y l
  | l, k :: ks => if k.op = ru then k else if k.op = no then mergeC op no ru t n x y l ks else if k.op = op then mergeC op no ru t n x y (addC l k.kids) ks else mergeC op no ru t n x y (addC l [k]) ks
def turnC (t : ByteArray) (n : Int) (x y : Nat) : List Pr → Pr
  | [] => node 10 t n x y []
  | k :: ks => if k.op = 1 then leaf 2 else if k.op = 2 then leaf 1 else if k.op = 10 then (match k.kids with | [] => node 10 t n x y (k :: ks) | c :: _ => c) else node 10 t n x y (k :: ks)
def finishC (op : Int) (t : ByteArray) (n : Int) (x y : Nat) (ks : List Pr) : Pr :=
  if op = 8 then mergeC 8 1 2 t n x y [] ks else if op = 9 then mergeC 9 2 1 t n x y [] ks else if op = 10 then turnC t n x y ks else node op t n x y ks
mutual
def plainC : Pr → Pr | node op t n x y k => finishC op t n x y (plainsC k)
def plainsC : List Pr → List Pr | [] => [] | k :: l => plainC k :: plainsC l
end
theorem plainsC_map (l : List Pr) : plainsC l = l.map plainC := by
  induction l with
  | nil => simp [plainsC]
  | cons k l ih => simp [plainsC, ih]

/-! ### add -/
theorem keepFrom_append (no : Int) (pre l m : List Pr) : keepFrom no pre (l ++ m) = keepFrom no pre l ++ keepFrom no (pre ++ l) m := by
  induction l generalizing pre with
  | nil => simp [keepFrom]
  | cons a l ih => simp only [List.cons_append, keepFrom, ih, List.append_assoc, List.nil_append]
theorem keep_append (no : Int) (l m : List Pr) : keep no (l ++ m) = keep no l ++ keepFrom no l m := by
  unfold keep; rw [keepFrom_append]; simp
theorem twice_append (l m : List Pr) (a : Pr) : twice (l ++ m) a = (twice l a || twice m a) := by unfold twice; rw [List.any_append]
theorem twice_one (b a : Pr) : twice [b] a = same b a := by simp [twice]
theorem snoc_ind {P : List Pr → Prop} (h0 : P []) (h1 : ∀ l a, P l → P (l ++ [a])) (l : List Pr) : P l := by
  have : ∀ m : List Pr, P m.reverse := by
    intro m
    induction m with
    | nil => exact h0
    | cons a m ih => rw [List.reverse_cons]; exact h1 _ _ ih
  have h2 := this l.reverse
  rwa [List.reverse_reverse] at h2
theorem twice_keep (no : Int) (F : List Pr) (a : Pr) (ha : a.op ≠ no) : twice (keep no F) a = twice F a := by
  revert F
  refine snoc_ind ?_ ?_
  · rfl
  · intro F b ih
    rw [keep_snoc, twice_append, ih, twice_append, twice_one]
    split
    · rename_i hc
      cases hs : same b a with
      | false => simp [twice]
      | true =>
        rcases hc with hc | hc
        · obtain ⟨c, hcF, hcb⟩ := twice_mem hc
          have h9 : twice F a = true := by
            unfold twice; rw [List.any_eq_true]
            exact ⟨c, hcF, same_trans c b a hcb hs⟩
          simp [h9]
        · exact absurd ((same_op hs).symm.trans hc) ha
    · rw [twice_one]
theorem keepFrom_filter (no : Int) (F D m : List Pr) (h1 : m.Pairwise (fun a b => same a b = false)) (h2 : ∀ a ∈ D, ∀ b ∈ m, same a b = false) (h3 : ∀ b ∈ m, b.op ≠ no) : keepFrom no (F ++ D) m = m.filter fun k => !twice F k := by
  induction m generalizing D with
  | nil => simp [keepFrom]
  | cons a m ih =>
    rw [List.pairwise_cons] at h1
    have hd : twice D a = false := by
      unfold twice; rw [List.any_eq_false]
      intro b hb; simp [h2 b hb a (by simp)]
    simp only [keepFrom]
    rw [List.append_assoc, ih (D ++ [a]) h1.2 (fun c hc b hb => ?_) (fun b hb => h3 b (by simp [hb])), List.filter_cons, twice_append, hd, Bool.or_false]
    · have h4 := h3 a (by simp)
      cases ht : twice F a <;> simp [h4]
    · simp only [List.mem_append, List.mem_cons, List.not_mem_nil, or_false] at hc
      rcases hc with hc | rfl
      · exact h2 c hc b (by simp [hb])
      · exact h1.1 b hb
theorem keep_add (no : Int) (F m : List Pr) (h1 : m.Pairwise (fun a b => same a b = false)) (h3 : ∀ b ∈ m, b.op ≠ no) : keep no (F ++ m) = addC (keep no F) m := by
  rw [keep_append]
  have h := keepFrom_filter no F [] m h1 (fun a ha => by simp at ha) h3
  rw [List.append_nil] at h
  rw [h, addC]
  congr 1
  refine List.filter_congr fun k hk => ?_
  rw [twice_keep no F k (h3 k hk)]

/-! ### As the document's, but for what a Star, a None, holds of its place -/
def Near2 (a b : Pr) : Prop := a = b ∨ (a.op = b.op ∧ (a.op = 1 ∨ a.op = 2) ∧ a.all = true ∧ b.all = true)
inductive Nears : List Pr → List Pr → Prop where
  | nil : Nears [] []
  | cons {a b : Pr} {l m : List Pr} (h : Near2 a b) (hs : Nears l m) : Nears (a :: l) (b :: m)
theorem Near2.op_eq {a b : Pr} (h : Near2 a b) : a.op = b.op := by
  rcases h with rfl | h
  · rfl
  · exact h.1
theorem Near2.eq {a b : Pr} (h : Near2 a b) (h1 : b.op ≠ 1) (h2 : b.op ≠ 2) : a = b := by
  rcases h with rfl | h
  · rfl
  · have := h.1; omega

theorem mergeC_glue {op no ru : Int} (ho : (op = 8 ∧ no = 1 ∧ ru = 2) ∨ (op = 9 ∧ no = 2 ∧ ru = 1)) (t : ByteArray) (n : Int) (x y : Nat) : ∀ (ks ks' : List Pr), Nears ks ks' → (∀ k ∈ ks', IsPl k ∧ k.all = true) → ∀ F : List Pr,
    Near2 (mergeC op no ru t n x y (keep no F) ks) (if hasOp ru (flat op ks') = true then leaf ru else outOf op t n x y (keep no (F ++ flat op ks'))) := by
  have hno : noOf op = no := by rcases ho with ⟨rfl, rfl, rfl⟩ | ⟨rfl, rfl, rfl⟩ <;> rfl
  have hru : ru = 1 ∨ ru = 2 := by omega
  have hd : no ≠ ru ∧ op ≠ no ∧ op ≠ ru ∧ (op = 8 ∨ op = 9) ∧ (no = 1 ∨ no = 2) := by omega
  intro ks
  induction ks with
  | nil =>
    intro ks' h _ F
    cases h
    left
    have e : hasOp ru (flat op []) = false := by simp [flat, hasOp]
    rw [e, if_neg (by simp)]
    simp only [flat, List.append_nil]
    unfold mergeC outOf
    rw [hno]
    rcases keep no F with _ | ⟨a, _ | ⟨b, l⟩⟩ <;> rfl
  | cons k ks ih =>
    intro ks' h hg F
    cases h with
    | cons hk hs =>
      rename_i k' ks'
      have hgk := hg k' (by simp)
      have hgs : ∀ k ∈ ks', IsPl k ∧ k.all = true := fun a ha => hg a (by simp [ha])
      have hop := hk.op_eq
      have hho : ∀ l m : List Pr, hasOp ru (l ++ m) = (hasOp ru l || hasOp ru m) := by intro l m; unfold hasOp; rw [List.any_append]
      have ho1 : ∀ a : Pr, hasOp ru [a] = decide (a.op = ru) := by intro a; simp [hasOp]
      have hfl : flat op (k' :: ks') = (if k'.op = op then k'.kids else [k']) ++ flat op ks' := by simp only [flat]
      unfold mergeC
      rw [hfl]
      clear hfl
      by_cases h1 : k.op = ru
      · rw [if_pos h1]
        have e : k'.op = ru := by rw [← hop]; exact h1
        rw [if_neg (show ¬ k'.op = op by omega), hho, ho1, decide_eq_true e, Bool.true_or, if_pos rfl]
        right
        refine ⟨h1, by omega, ?_, leaf_all hru⟩
        rcases hk with rfl | hk
        · exact hgk.2
        · exact hk.2.2.1
      rw [if_neg h1]
      by_cases h2 : k.op = no
      · rw [if_pos h2]
        have e : k'.op = no := by rw [← hop]; exact h2
        rw [if_neg (show ¬ k'.op = op by omega), hho, ho1, decide_eq_false (show ¬ k'.op = ru by omega), Bool.false_or]
        have hI := ih ks' hs hgs (F ++ [k'])
        rw [keep_snoc, if_pos (.inr e), List.append_nil, List.append_assoc] at hI
        exact hI
      rw [if_neg h2]
      have hkk : k = k' := hk.eq (by omega) (by omega)
      subst hkk
      by_cases h3 : k.op = op
      · rw [if_pos h3, if_pos h3]
        have hm := hgk.1.many (by omega)
        have hz : hasOp ru k.kids = false := by
          unfold hasOp; rw [List.any_eq_false]
          intro a ha
          have := (hm.2.1 a ha).2
          simp; omega
        rw [hho, hz, Bool.false_or]
        have hI := ih ks' hs hgs (F ++ k.kids)
        rw [keep_add no F k.kids hm.2.2 (fun b hb => by have := (hm.2.1 b hb).2; omega), List.append_assoc] at hI
        exact hI
      · rw [if_neg h3, if_neg h3, hho, ho1, decide_eq_false h1, Bool.false_or]
        have hI := ih ks' hs hgs (F ++ [k])
        rw [keep_add no F [k] (List.pairwise_singleton _ _) (fun b hb => by simp at hb; subst hb; exact h2), List.append_assoc] at hI
        exact hI

theorem glue_merge {op no ru : Int} (ho : (op = 8 ∧ no = 1 ∧ ru = 2) ∨ (op = 9 ∧ no = 2 ∧ ru = 1)) (t : ByteArray) (n : Int) (x y : Nat) {ks ks' : List Pr} (h : Nears ks ks') (hg : ∀ k ∈ ks', IsPl k ∧ k.all = true) : Near2 (mergeC op no ru t n x y [] ks) (glue op t n x y ks') := by
  have h1 := mergeC_glue ho t n x y ks ks' h hg []
  have hno : noOf op = no ∧ 3 - no = ru := by rcases ho with ⟨rfl, rfl, rfl⟩ | ⟨rfl, rfl, rfl⟩ <;> exact ⟨rfl, rfl⟩
  unfold glue
  rw [hno.1, hno.2]
  exact h1

theorem plainC_near : ∀ p : Pr, p.all = true → Near2 p.plainC p.plain := by
  intro p
  induction p using ind with
  | h op t n x y k ih =>
    intro ha
    simp only [all, Bool.and_eq_true] at ha
    have hs : Nears (plainsC k) (plains k) := by
      have h2 := ha.2
      clear ha
      induction k with
      | nil => simp only [plains, plainsC]; exact .nil
      | cons a l ihl =>
        simp only [alls, Bool.and_eq_true] at h2
        simp only [plains, plainsC]
        exact .cons (ih a (by simp) h2.1) (ihl (fun b hb => ih b (by simp [hb])) h2.2)
    have hg : ∀ a ∈ plains k, IsPl a ∧ a.all = true := by
      intro a h
      rw [plains_map, List.mem_map] at h
      obtain ⟨b, hb, rfl⟩ := h
      have := plain_good b (all_mem hb ha.2)
      exact ⟨this.1, this.2.1⟩
    simp only [plain, plainC]
    unfold finish finishC
    by_cases h8 : op = 8
    · subst h8
      rw [if_pos rfl, if_neg (by decide), if_pos (.inl rfl)]
      exact glue_merge (.inl ⟨rfl, rfl, rfl⟩) t n x y hs hg
    rw [if_neg h8]
    by_cases h9 : op = 9
    · subst h9
      rw [if_pos rfl, if_neg (by decide), if_pos (.inr rfl)]
      exact glue_merge (.inr ⟨rfl, rfl, rfl⟩) t n x y hs hg
    rw [if_neg h9]
    by_cases h10 : op = 10
    · subst h10
      rw [if_pos rfl, if_pos rfl]
      have hl := part10 ha.1
      obtain ⟨a, rfl⟩ : ∃ a, k = [a] := by
        match k, hl with
        | [a], _ => exact ⟨a, rfl⟩
      simp only [plains, plainsC] at hs hg ⊢
      cases hs with
      | cons hk _ =>
        have hop := hk.op_eq
        left
        simp only [turnC, turn]
        by_cases h1 : a.plainC.op = 1
        · rw [if_pos h1, if_pos (by omega), ← hop, h1]; rfl
        rw [if_neg h1]
        by_cases h2 : a.plainC.op = 2
        · rw [if_pos h2, if_pos (by omega), ← hop, h2]; rfl
        rw [if_neg h2]
        have e := hk.eq (by omega) (by omega)
        rw [e] at h1 h2 hop ⊢
        rw [if_neg (show ¬ (a.plain.op = 1 ∨ a.plain.op = 2) by omega)]
        by_cases h3 : a.plain.op = 10
        · rw [if_pos h3, if_pos h3]
          obtain ⟨c, hc, _⟩ := (hg a.plain (by simp)).1.not h3
          rw [hc]
          rfl
        · rw [if_neg h3, if_neg h3]
    rw [if_neg h10, if_neg h10, if_neg (by omega)]
    left
    have hl := part_leaf h8 h9 h10 ha.1
    have : k = [] := List.length_eq_zero_iff.1 hl
    subst this
    simp [plainsC]

theorem leaf_like {a : Pr} (ho : a.op = 1 ∨ a.op = 2) (h : a.all = true) : a.kids = [] ∧ a.size = 1 ∧ a.depth = 1 ∧ IsPl a := by
  obtain ⟨op, t, n, x, y, k⟩ := a
  simp only [op_node] at ho
  simp only [all, Bool.and_eq_true] at h
  have hl := part_leaf (by omega) (by omega) (by omega) h.1
  have : k = [] := List.length_eq_zero_iff.1 hl
  subst this
  exact ⟨rfl, by simp [size, sizes], by simp [depth, depths], .mk op t n x y [] (fun _ _ _ => rfl) (fun e => by omega) (fun e => by omega) (fun b hb => by simp at hb)⟩

theorem same_leaf {a b : Pr} (ho : a.op = 1 ∨ a.op = 2) (hop : a.op = b.op) (ha : a.all = true) (hb : b.all = true) : same a b = true := by
  obtain ⟨op, t, n, x, y, k⟩ := a
  obtain ⟨op', t', n', x', y', k'⟩ := b
  simp only [op_node] at ho hop
  subst hop
  simp only [all, Bool.and_eq_true] at ha hb
  have h1 := ha.1
  have h2 := hb.1
  unfold partB at h1 h2
  rw [if_pos ho] at h1 h2
  simp only [bareB, Bool.and_eq_true, decide_eq_true_eq] at h1 h2
  have e1 := List.length_eq_zero_iff.1 h1.2.2.2
  have e2 := List.length_eq_zero_iff.1 h2.2.2.2
  subst e1 e2
  simp only [same, Bool.and_eq_true, decide_eq_true_eq]
  exact ⟨trivial, h1.1.trans h2.1.symm, h1.2.1.trans h2.2.1.symm, ⟨feq_trans h1.2.2.1.1 (feq_swap h2.2.2.1.1), feq_trans h1.2.2.1.2 (feq_swap h2.2.2.1.2)⟩, by simp [sames]⟩

theorem plainC_good (p : Pr) (h : p.all = true) : IsPl p.plainC ∧ p.plainC.all = true ∧ p.plainC.size ≤ p.size ∧ p.plainC.depth ≤ p.depth ∧ same p.plainC p.plain = true := by
  have hg := plain_good p h
  rcases plainC_near p h with e | ⟨h1, h2, h3, h4⟩
  · rw [e]
    exact ⟨hg.1, hg.2.1, hg.2.2.1, hg.2.2.2, all_same _ hg.2.1⟩
  · obtain ⟨_, a2, a3, a4⟩ := leaf_like h2 h3
    exact ⟨a4, h3, by have := size_pos p; omega, by have := depth_pos p; omega, same_leaf h2 h1 h3 h4⟩
theorem plainC_has (i : It) (p : Pr) (h : p.all = true) : hasB i p.plainC = hasB i p := by
  have hg := plainC_good p h
  rw [same_has i p.plainC p.plain hg.2.1 (plain_good p h).2.1 hg.2.2.2.2, plain_has i p h]
theorem plainC_fix (q : Pr) (hp : IsPl q) (ha : q.all = true) : same q.plainC q = true := by
  have h := (plainC_good q ha).2.2.2.2
  rwa [plain_fix q hp] at h
end Pr

end Go.Proofs.Ytechmejmlelmmaa
