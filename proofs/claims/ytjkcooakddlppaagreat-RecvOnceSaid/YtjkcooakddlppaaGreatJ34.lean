/- Joined: RefSt11, LocT, LocalB, LocF. -/
import Derived.Test.YtjkcooakddlppaaGreatJ32
import Derived.Test.YtjkcooakddlppaaGreatJ27
import Derived.Test.YtjkcooakddlppaaGreatJ25
import Derived.Deep.RegionLaw
import Derived.Test.YtjkcooakddlppaaGreatJ33
import Derived.Test.YtjkcooakddlppaaGreatJ28
import Derived.Test.YtjkcooakddlppaaGreatJ29
import Derived.Deep.RegionHeld3
/- What a state's replica does by itself, the document's answers: Filter. Walked. -/
namespace Go.Proofs.YtjkcooakddlppaaGreat
set_option linter.unusedVariables false
set_option linter.unusedSimpArgs false
set_option maxRecDepth 100000
open Go.RowKit
/-! ### How much is known -/
theorem flat_put (v : Nat → Int) (id : ByteArray) : ∀ o : List Fr, (flatI (putF v id o)).length = (flatI o).length + 1
  | [] => rfl
  | g :: o => by
    rw [putF]
    split
    · simp [flatI]; omega
    · have := flat_put v id o
      simp only [flatI, List.flatMap_cons, List.length_append] at *
      omega
theorem flat_grp (F : ByteArray → Nat → Int) (ids : List ByteArray) : ∀ o : List Fr, (flatI (ids.foldl (grpStep F) o)).length ≤ (flatI o).length + ids.length := by
  induction ids with
  | nil => intro o; simp
  | cons a l ih =>
    intro o
    rw [List.foldl_cons]
    have := ih (grpStep F o a)
    have h2 : (flatI (grpStep F o a)).length ≤ (flatI o).length + 1 := by
      unfold grpStep
      split
      · omega
      · rw [flat_put]; omega
    simp only [List.length_cons]; omega
theorem plain_small (k : Kn) : (flatI (plainB k).l).length ≤ (flatI k.l).length ∧ (plainB k).l.length ≤ (flatI k.l).length := by
  have h1 := flat_grp (beyB k) (namesB k) []
  have h2 := grp_len (beyB k) (namesB k) []
  have h3 : (namesB k).length ≤ (flatI k.l).length := len_all _
  have e : (plainB k).l = (namesB k).foldl (grpStep (beyB k)) [] := rfl
  rw [e]
  have h0 : (flatI ([] : List Fr)).length = 0 := rfl
  have h4 : ([] : List Fr).length = 0 := rfl
  omega
theorem flat_with (k : Kn) (id : ByteArray) (r c : Int) : (flatI (withK k id r c).l).length = (flatI k.l).length + 1 := by
  simp [withK, flatI]
theorem frFresh_nil (w : World) (B : Nat) : FrFresh w B [] (.slice none 0 0) := fun w' _ _ => ⟨fun _ => .nilFunc, none, 0, 0, 0, rfl, Nat.le_refl _, by decide, fun h => absurd h (by simp), fun k f hk => by simp at hk, fun k f hk => by simp at hk⟩
end Go.Proofs.YtjkcooakddlppaaGreat
/- What the code's deeds tell, as the contracts say it. No walk. -/
namespace Go.Proofs.YtjkcooakddlppaaGreat
set_option linter.unusedVariables false
set_option linter.unusedSimpArgs false
set_option maxRecDepth 100000
open Go.RowKit
def errI (n : Int) : Value := errV n.toNat
def newE (r : Int) (f : Pr) : Int := if okNew r f = true then 0 else 1
def newT (r : Int) (f : Pr) : St := if okNew r f = true then newS r f else zeroS
end Go.Proofs.YtjkcooakddlppaaGreat
/- Layer 9's deeds: what the document's tell, told alike; what a deed comes to. No walk. -/
namespace Go.Proofs.YtjkcooakddlppaaGreat
set_option linter.unusedVariables false
set_option linter.unusedSimpArgs false
set_option maxRecDepth 100000
open Go.RowKit
/-! ### The document's, told alike -/
/-! ### A deed -/
theorem errI_code {E : Int} (h : 0 ≤ E ∧ E ≤ 10) (w : World) : Calls Tryz.prog 14 #[errI E] w fun e w' => e = .returned (.int .i64 E) ∧ w = w' := by
  have := code_calls E.toNat (by omega) w
  rw [show ((E.toNat : Nat) : Int) = E by omega] at this
  exact this
end Go.Proofs.YtjkcooakddlppaaGreat
/- The code's filter of layer 9: a filter in new memory. Walked. -/
namespace Go.Proofs.YtjkcooakddlppaaGreat
set_option linter.unusedVariables false
set_option linter.unusedSimpArgs false
set_option maxRecDepth 100000
open Go.RowKit
/-! ### Worlds that grew, but for one block -/
theorem gr_cell {a w : World} {row : Option Nat} (h : a.grownBy w row) {b : Nat} (hb : b < a.heap.size) (hne : some b ≠ row) (o : Nat) : w.cell? ⟨b, o, none⟩ = a.cell? ⟨b, o, none⟩ := World.cell?_of_block (h.block b hb hne)
theorem LPF.grown {w w' : World} {B : Nat} {p : Pr} {v : Value} {b : Nat} (h : LPF w B p v) (hg : w.grownBy w' (some b)) (hb : b < B) : LPF w' B p v :=
  h.mono (fun k o hS => gr_cell hg hS.2 (by simp only [ne_eq, Option.some.injEq]; have := hS.1; omega) o) fun k hS => ⟨hS.1, Nat.lt_of_lt_of_le hS.2 hg.size⟩
/-! ### A row's element set anew -/
def setL : List Value → Nat → List Value → List Value
  | xs, _, [] => xs
  | xs, o, v :: vs => setL (xs.set o v) (o + 1) vs
theorem row_sets {base n size g cap : Nat} {e : TypeId} (vs : List Value) : ∀ {w : World} {xs : List Value} (o : Nat), w.ownsRow base e size (.slice (some ⟨g, 0, none⟩) n cap) n xs → o + vs.length ≤ n * size → (w.setCells g o vs).ownsRow base e size (.slice (some ⟨g, 0, none⟩) n cap) n (setL xs o vs) := by
  induction vs with
  | nil => intro w xs o h _; exact h
  | cons v vs ih =>
    intro w xs o h hl
    simp only [List.length_cons] at hl
    exact ih (o + 1) (row_set h v (by omega)) (by omega)
theorem set_same {α : Type} {xs : List α} {k : Nat} {x : α} (h : xs[k]? = some x) : xs.set k x = xs := by
  apply List.ext_getElem?
  intro j
  rw [List.getElem?_set]
  split
  · rename_i e
    subst e
    split
    · exact h.symm
    · rename_i hn; rw [List.getElem?_eq_none (by omega)]
  · rfl
theorem news_set4 (V : Nat → Value) (l : List Pr) : ∀ (s a : Nat) (p : Pr) (v : Value), l[a]? = some p → newsOf (updU V (s + a) v) s l = (newsOf V s l).set (a * 5 + 4) v := by
  induction l with
  | nil => intro s a p v h; simp at h
  | cons q l ih =>
    intro s a p v h
    cases a with
    | zero =>
      simp at h; subst h
      rw [newsOf, newsOf, Nat.zero_mul, Nat.zero_add, Nat.add_zero, updU_same]
      rw [news_congr (V := updU V s v) (W := V) (s := s + 1) (s' := s + 1) (l := l) (fun i _ => updU_far _ _ (by omega))]
      simp [pc]
    | succ a =>
      simp at h
      rw [newsOf, newsOf, updU_far _ _ (by omega)]
      have e : (pc q (V s)).length = 5 := rfl
      rw [List.set_append_right _ _ (by rw [e]; omega), e, show (a + 1) * 5 + 4 - 5 = a * 5 + 4 by omega, ← ih (s + 1) a p v h, show s + 1 + a = s + (a + 1) by omega]
theorem news_setL (V : Nat → Value) (l : List Pr) (a : Nat) (p : Pr) (v : Value) (h : l[a]? = some p) : setL (newsOf V 0 l) (a * 5) (pc p v) = newsOf (updU V a v) 0 l := by
  have g := fun j (hj : j < 4) => (news_get V 0 l a p h j (by omega))
  have e := news_set4 V l 0 a p v h
  rw [Nat.zero_add] at e g
  rw [e]
  rw [show setL (newsOf V 0 l) (a * 5) (pc p v) = ((((((newsOf V 0 l).set (a * 5) (.int .i64 p.op)).set (a * 5 + 1) (.string p.text)).set (a * 5 + 1 + 1) (.int .i64 p.n)).set (a * 5 + 1 + 1 + 1) (.complex .f64 p.x p.y)).set (a * 5 + 1 + 1 + 1 + 1) v) from rfl]
  rw [set_same (k := a * 5) (by have := g 0 (by omega); simpa [pc] using this), set_same (k := a * 5 + 1) (by have := g 1 (by omega); simpa [pc] using this), set_same (k := a * 5 + 1 + 1) (by have := g 2 (by omega); simpa [pc] using this), set_same (k := a * 5 + 1 + 1 + 1) (by have := g 3 (by omega); simpa [pc] using this)]
/-! ### What the closure has -/
theorem row_pc {w : World} {base g len c k j : Nat} {kids : List Pr} {V : Nat → Value} {q : Pr} {u : Value} (h : w.ownsRow base 43 5 (.slice (some ⟨g, 0, none⟩) len c) len (newsOf V 0 kids)) (hlen : kids.length = len) (hq : kids[k]? = some q) (hlt : k < len) (hu : (pc q (V k))[j]? = some u) : w.cell? ⟨g, k * 5 + j, none⟩ = some u := by
  have hj : j < 5 := (List.getElem?_eq_some_iff.1 hu).1
  rw [h.cellAt (k * 5 + j) (by omega), news_get _ _ _ _ _ hq _ hj, Nat.zero_add]
  exact hu
theorem Own.far5 {w : World} {b g : Nat} {c : Array Value} {t : TypeId} (h : Own w b c t) (hne : b ≠ g) (o0 o1 o2 o3 o4 : Nat) (c0 c1 c2 c3 c4 : Value) : Own (((((w.setCell ⟨g, o0, none⟩ c0).setCell ⟨g, o1, none⟩ c1).setCell ⟨g, o2, none⟩ c2).setCell ⟨g, o3, none⟩ c3).setCell ⟨g, o4, none⟩ c4) b c t :=
  ((((h.setFar _ _ hne).setFar _ _ hne).setFar _ _ hne).setFar _ _ hne).setFar _ _ hne
theorem LPF.setsAt {B b : Nat} {p : Pr} {v : Value} (hb : b < B) (vs : List Value) : ∀ {w : World} (o : Nat), LPF w B p v → LPF (w.setCells b o vs) B p v := by
  induction vs with
  | nil => intro w o h; exact h
  | cons u vs ih =>
    intro w o h
    exact ih (o + 1) (h.mono (fun b' o' hS => World.cell?_setCell_other _ _ _ _ (fun e => by have := hS.1; have : b = b' := congrArg Addr.block e; omega)) fun _ hS => ⟨hS.1, by simpa [World.setCell] using hS.2⟩)
theorem row_base {w : World} {base base' size n : Nat} {e : TypeId} {v : Value} {xs : List Value} (h : w.ownsRow base e size v n xs) (hb : base' ≤ base) : w.ownsRow base' e size v n xs := by
  obtain ⟨h1, h2⟩ := h
  refine ⟨h1, ?_⟩
  rcases h2 with h2 | ⟨g, cap, cur, hv, hg, r⟩
  · exact .inl h2
  · exact .inr ⟨g, cap, cur, hv, Nat.le_trans hb hg, r⟩
theorem size_sets {b : Nat} (vs : List Value) : ∀ {w : World} (o : Nat), (w.setCells b o vs).heap.size = w.heap.size := by
  induction vs with
  | nil => intro w o; rfl
  | cons v vs ih => intro w o; exact (ih (o + 1)).trans (by simp [World.setCell])
end Go.Proofs.YtjkcooakddlppaaGreat
