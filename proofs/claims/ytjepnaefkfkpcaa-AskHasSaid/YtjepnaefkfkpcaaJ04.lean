/- Joined: ItemC, KnowM, ItemD, RefVec, KnowW. -/
import Derived.Test.YtjepnaefkfkpcaaJ03
import Derived.Test.YtjepnaefkfkpcaaJ01
import Derived.Deep.CutBlock
import Derived.Deep.DeepCutAuto
/- Walks of layer 2: whether an item may be, by the code and by the document's answer; an item out of plain data. -/
namespace Go.Proofs.Ytjepnaefkfkpcaa
set_option linter.unusedVariables false
set_option linter.unusedSimpArgs false
set_option maxRecDepth 100000
open Go.RowKit
def mayI (id : ByteArray) (r c st : Int) (kd : ByteArray) (n : Int) (x y : Nat) : Bool :=
  nameB id && (txtB kd && (verB r c && (inB st 1 1000000 && (inB n (-1000000) 1000000 && mayB x y))))
end Go.Proofs.Ytjepnaefkfkpcaa
/- What is known: plain mathematics. No walk. -/
namespace Go.Proofs.Ytjepnaefkfkpcaa
set_option linter.unusedVariables false
set_option linter.unusedSimpArgs false
set_option maxRecDepth 100000
open Go.RowKit
structure Fr where
  ids : List ByteArray
  v : Nat → Int
structure Kn where
  star : Nat → Int
  l : List Fr
def eqV (A B : Nat → Int) : Bool := (List.range 8).all fun k => A k == B k
theorem eqV_iff {A B : Nat → Int} : eqV A B = true ↔ ∀ k, k < 8 → A k = B k := by simp [eqV, List.all_eq_true]
theorem eqV_refl (A : Nat → Int) : eqV A A = true := eqV_iff.2 fun _ _ => rfl
def zeroV : Nat → Int := fun _ => 0
def Trunc8 (A : Nat → Int) : Prop := ∀ j, 8 ≤ j → A j = 0
/-! ### Texts among others; one put among them -/
def amongB (l : List ByteArray) (s : ByteArray) : Bool := l.any fun x => x.toList == s.toList
def insStep (s : ByteArray) (st : List ByteArray × Bool) (a : ByteArray) : List ByteArray × Bool :=
  let p := !st.2 && leB s a
  let o := if p = true then st.1 ++ [s] else st.1
  (if (a.toList == s.toList) = true then o else o ++ [a], st.2 || p)
def insF (s : ByteArray) (l : List ByteArray) : List ByteArray × Bool := l.foldl (insStep s) ([], false)
def insB (l : List ByteArray) (s : ByteArray) : List ByteArray := if (insF s l).2 = true then (insF s l).1 else (insF s l).1 ++ [s]
def insR (s : ByteArray) : List ByteArray → List ByteArray
  | [] => [s]
  | a :: l => if leB s a = true then s :: (a :: l).filter (fun x => !(x.toList == s.toList)) else a :: insR s l
theorem ins_done (s : ByteArray) (l : List ByteArray) : ∀ o : List ByteArray, l.foldl (insStep s) (o, true) = (o ++ l.filter (fun x => !(x.toList == s.toList)), true) := by
  induction l with
  | nil => intro o; simp
  | cons a l ih =>
    intro o
    rw [List.foldl_cons]
    have e : insStep s (o, true) a = (if (a.toList == s.toList) = true then o else o ++ [a], true) := by simp [insStep]
    rw [e, ih]
    cases h : (a.toList == s.toList) <;> simp [h]
theorem ins_go (s : ByteArray) (l : List ByteArray) : ∀ o : List ByteArray, (if (l.foldl (insStep s) (o, false)).2 = true then (l.foldl (insStep s) (o, false)).1 else (l.foldl (insStep s) (o, false)).1 ++ [s]) = o ++ insR s l := by
  induction l with
  | nil => intro o; simp [insR]
  | cons a l ih =>
    intro o
    rw [List.foldl_cons, insR]
    cases h : leB s a with
    | true =>
      have e : insStep s (o, false) a = (if (a.toList == s.toList) = true then o ++ [s] else o ++ [s] ++ [a], true) := by simp [insStep, h]
      rw [e, ins_done]
      cases h' : (a.toList == s.toList) <;> simp [h']
    | false =>
      have hn : (a.toList == s.toList) = false := tl_ne.2 (ls_ne (le_not h))
      have e : insStep s (o, false) a = (o ++ [a], false) := by simp [insStep, h, hn]
      rw [e, ih]
      simp
theorem ins_eq (l : List ByteArray) (s : ByteArray) : insB l s = insR s l := by
  exact (ins_go s l []).trans (List.nil_append _)
theorem mem_ins {l : List ByteArray} {s x : ByteArray} : x ∈ insB l s ↔ x = s ∨ x ∈ l := by
  rw [ins_eq]
  induction l with
  | nil => simp [insR]
  | cons a l ih =>
    rw [insR]
    cases h : leB s a with
    | true =>
      simp only [if_true, List.mem_cons, List.mem_filter, Bool.not_eq_true', tl_ne]
      constructor
      · rintro (h | ⟨h, _⟩)
        · exact .inl h
        · exact .inr h
      · rintro (h | h)
        · exact .inl h
        · by_cases e : x = s
          · exact .inl e
          · exact .inr ⟨h, e⟩
    | false =>
      simp only [Bool.false_eq_true, if_false, List.mem_cons, ih]
      constructor
      · rintro (h | h | h)
        · exact .inr (.inl h)
        · exact .inl h
        · exact .inr (.inr h)
      · rintro (h | h | h)
        · exact .inr (.inl h)
        · exact .inl h
        · exact .inr (.inr h)
theorem rise_ins {l : List ByteArray} {s : ByteArray} (h : Rise l) : Rise (insB l s) := by
  rw [ins_eq]
  induction l with
  | nil => simp [insR, Rise]
  | cons a l ih =>
    rw [rise_cons] at h
    rw [insR]
    cases hs : leB s a with
    | true =>
      rw [if_pos rfl, rise_cons]
      refine ⟨fun x hx => ?_, rise_filter (rise_cons.2 h)⟩
      rw [List.mem_filter] at hx
      obtain ⟨hx, hne⟩ := hx
      rw [Bool.not_eq_true', tl_ne] at hne
      have hax : x = a ∨ lsB a x = true := by
        rcases List.mem_cons.1 hx with e | hx
        · exact .inl e
        · exact .inr (h.1 x hx)
      rcases le_iff.1 hs with h1 | h1
      · rcases hax with e | h2
        · subst e; exact h1
        · exact ls_trans h1 h2
      · subst h1
        rcases hax with e | h2
        · exact absurd e hne
        · exact h2
    | false =>
      rw [if_neg (by simp), rise_cons]
      refine ⟨fun x hx => ?_, ih h.2⟩
      rw [← ins_eq, mem_ins] at hx
      rcases hx with e | hx
      · subst e; exact le_not hs
      · exact h.1 x hx
theorem len_ins (l : List ByteArray) (s : ByteArray) : (insB l s).length ≤ l.length + 1 := by
  rw [ins_eq]
  induction l with
  | nil => simp [insR]
  | cons a l ih =>
    rw [insR]
    split
    · have := List.length_filter_le (fun x : ByteArray => !(x.toList == s.toList)) (a :: l)
      simp only [List.length_cons] at *; omega
    · simp only [List.length_cons]; omega
def insAll (l : List ByteArray) : List ByteArray := l.foldl insB []
def flatI (l : List Fr) : List ByteArray := l.flatMap (·.ids)
def namesB (k : Kn) : List ByteArray := insAll (flatI k.l)
theorem insAll_snoc (l : List ByteArray) (s : ByteArray) : insAll (l ++ [s]) = insB (insAll l) s := by simp [insAll]
theorem foldl_ins (l : List ByteArray) : ∀ o : List ByteArray, Rise o → Rise (l.foldl insB o) ∧ (∀ x, x ∈ l.foldl insB o ↔ x ∈ o ∨ x ∈ l) ∧ (l.foldl insB o).length ≤ o.length + l.length := by
  induction l with
  | nil => intro o h; exact ⟨h, fun x => by simp, by simp⟩
  | cons a l ih =>
    intro o h
    obtain ⟨h1, h2, h3⟩ := ih (insB o a) (rise_ins h)
    refine ⟨h1, fun x => ?_, ?_⟩
    · rw [List.foldl_cons, h2, mem_ins, List.mem_cons]
      constructor
      · rintro ((h | h) | h)
        · exact .inr (.inl h)
        · exact .inl h
        · exact .inr (.inr h)
      · rintro (h | h | h)
        · exact .inl (.inr h)
        · exact .inl (.inl h)
        · exact .inr h
    · have := len_ins o a
      simp only [List.foldl_cons, List.length_cons] at *; omega
theorem mem_all {l : List ByteArray} {x : ByteArray} : x ∈ insAll l ↔ x ∈ l := by
  have := (foldl_ins l [] (by simp [Rise])).2.1 x
  unfold insAll
  simpa using this
theorem len_all (l : List ByteArray) : (insAll l).length ≤ l.length := by
  have := (foldl_ins l [] (by simp [Rise])).2.2
  unfold insAll
  simpa using this
/-! ### What the pieces know -/
def rawStep (id : ByteArray) (A : Nat → Int) (f : Fr) : Nat → Int := if amongB f.ids id = true then maxV A f.v else A
def rawF (l : List Fr) (id : ByteArray) : Nat → Int := l.foldl (rawStep id) zeroV
def beyB (k : Kn) (id : ByteArray) (j : Nat) : Int := if j < 8 then (if rawF k.l id j ≤ k.star j then 0 else rawF k.l id j) else 0
theorem bey_trunc (k : Kn) (id : ByteArray) : Trunc8 (beyB k id) := fun j hj => by unfold beyB; rw [if_neg (by omega)]
/-! ### Made plain -/
def putF (v : Nat → Int) (id : ByteArray) : List Fr → List Fr
  | [] => [⟨[id], v⟩]
  | f :: l => if eqV f.v v = true then ⟨f.ids ++ [id], f.v⟩ :: l else f :: putF v id l
def grpStep (F : ByteArray → Nat → Int) (o : List Fr) (id : ByteArray) : List Fr := if eqV (F id) zeroV = true then o else putF (F id) id o
def grpF (F : ByteArray → Nat → Int) (ids : List ByteArray) : List Fr := ids.foldl (grpStep F) []
def plainB (k : Kn) : Kn := ⟨k.star, grpF (beyB k) (namesB k)⟩
def hasFr (id : ByteArray) (r c : Int) (f : Fr) : Bool := amongB f.ids id && hasV f.v r c
def hasK (k : Kn) (id : ByteArray) (r c : Int) : Bool := hasV k.star r c || k.l.any (hasFr id r c)
def eqIds : List ByteArray → List ByteArray → Bool
  | [], [] => true
  | a :: l, b :: m => (a.toList == b.toList) && eqIds l m
  | _, _ => false
def eqFr (a b : Fr) : Bool := eqV a.v b.v && eqIds a.ids b.ids
def eqFrs : List Fr → List Fr → Bool
  | [], [] => true
  | a :: l, b :: m => eqFr a b && eqFrs l m
  | _, _ => false
def alikeK (a b : Kn) : Bool := eqV a.star b.star && eqFrs a.l b.l
theorem eqIds_refl : ∀ l : List ByteArray, eqIds l l = true
  | [] => rfl
  | a :: l => by simp [eqIds, eqIds_refl l]
theorem eqFrs_refl : ∀ l : List Fr, eqFrs l l = true
  | [] => rfl
  | a :: l => by simp [eqFrs, eqFr, eqV_refl, eqIds_refl, eqFrs_refl l]
theorem alike_of {a b : Kn} (hs : eqV a.star b.star = true) (hl : a.l = b.l) : alikeK a b = true := by
  unfold alikeK; rw [hs, hl, eqFrs_refl]; rfl
theorem alike_refl (a : Kn) : alikeK a a = true := alike_of (eqV_refl _) rfl
theorem mem_putF {v : Nat → Int} {id : ByteArray} : ∀ {o : List Fr} {f : Fr}, f ∈ putF v id o → f ∈ o ∨ f = ⟨[id], v⟩ ∨ ∃ g ∈ o, eqV g.v v = true ∧ f = ⟨g.ids ++ [id], g.v⟩
  | [], f, h => by simp only [putF, List.mem_singleton] at h; exact .inr (.inl h)
  | g :: o, f, h => by
    rw [putF] at h
    by_cases e : eqV g.v v = true
    · rw [if_pos e] at h
      rcases List.mem_cons.1 h with h | h
      · exact .inr (.inr ⟨g, by simp, e, h⟩)
      · exact .inl (by simp [h])
    · rw [if_neg e] at h
      rcases List.mem_cons.1 h with h | h
      · exact .inl (by simp [h])
      · rcases mem_putF h with h | h | ⟨g', hg, e', h⟩
        · exact .inl (by simp [h])
        · exact .inr (.inl h)
        · exact .inr (.inr ⟨g', by simp [hg], e', h⟩)
theorem put_ids {v : Nat → Int} {id x : ByteArray} : ∀ {o : List Fr}, (∃ f ∈ putF v id o, x ∈ f.ids) → x = id ∨ ∃ f ∈ o, x ∈ f.ids := by
  rintro o ⟨f, hf, hm⟩
  rcases mem_putF hf with hf | hf | ⟨g, hg, _, hf⟩
  · exact .inr ⟨f, hf, hm⟩
  · subst hf; simp at hm; exact .inl hm
  · subst hf
    rcases List.mem_append.1 hm with hm | hm
    · exact .inr ⟨g, hg, hm⟩
    · simp at hm; exact .inl hm
/-! ### What is known -/
/-! ### One more -/
end Go.Proofs.Ytjepnaefkfkpcaa
/- Walks of layer 2: whether an item may be, by the document's answer; which one comes behind. -/
namespace Go.Proofs.Ytjepnaefkfkpcaa
set_option linter.unusedVariables false
set_option linter.unusedSimpArgs false
set_option maxRecDepth 100000
open Go.RowKit
set_option maxHeartbeats 400000 in
theorem refMay_calls (id : ByteArray) (r c st : Int) (kd : ByteArray) (n : Int) (x y : Nat) (d : Bool) (w : World) (hi : id.size ≤ maxLen) (hk : kd.size ≤ maxLen) :
    Calls Try.prog 35 #[itemV id r c st kd n x y d] w fun e w' => e = .returned (.bool (mayI id r c st kd n x y)) ∧ Below w.heap.size w w' := by
  have H1 := fun w => Lib.hid (refName_calls id w hi)
  have H2 := fun w => Lib.hid (refText_calls kd w hk)
  have H3 := fun w => Lib.hid (refVer_calls r c w)
  have H6 := fun w => Lib.hid (place_calls x y w)
  clear hi hk
  unfold mayI inB
  go_enter Try.func35, Try.ntmps35
  go_wp2_with (first | (go_at_call 39; refine ((H1 _).out).mono ?_; rintro e w' ⟨rfl, rfl⟩) | (go_at_call 48; refine ((H2 _).out).mono ?_; rintro e w' ⟨rfl, rfl⟩) | (go_at_call 51; refine ((H3 _).out).mono ?_; rintro e w' ⟨rfl, hb⟩; obtain ⟨hc, hf⟩ := bcell hb) | (go_at_call 49; refine ((H6 _).out).mono ?_; rintro e w' ⟨rfl, rfl⟩))
  all_goals
    go_ret
    refine ⟨ret_bool ?_, ?_⟩
    · (try simp_all) <;> (try omega)
    · first | exact (Below.refl _ _).alloc (Nat.le_refl _) _ | exact below_new hb
end Go.Proofs.Ytjepnaefkfkpcaa
/- Counts of replicas: the document's answers, walked. -/
namespace Go.Proofs.Ytjepnaefkfkpcaa
set_option linter.unusedVariables false
set_option linter.unusedSimpArgs false
set_option maxRecDepth 100000
open Go.RowKit
theorem cnt_out {A : Nat → Int} {r : Int} (h : r < 1 ∨ 8 < r) : cntV A r = 0 := by unfold cntV; rw [if_neg (by omega)]
theorem cnt_in {A : Nat → Int} {k : Nat} (h : k < 8) : cntV A ((k : Int) + 1) = A k := by
  unfold cntV
  rw [if_pos (by omega)]
  congr 1
  omega
set_option maxHeartbeats 1000000 in
theorem count_calls (A : Nat → Int) (r : Int) (w : World) :
    Calls Try.prog 42 #[vecV A, .int .i64 r] w fun e w' => e = .returned (.int .i64 (cntV A r)) ∧ Below w.heap.size w w' := by
  have HB := Lib.hid ((Below.refl w.heap.size w).alloc (Nat.le_refl _) (.cells (arr8 A) 28))
  by_cases h1 : r < 1
  · have E := Lib.hid (cnt_out (A := A) (.inl h1))
    have g1 : decide (r < 1) = true := decide_eq_true h1
    go_enter Try.func42, Try.ntmps42
    go_wp2_with fail
    go_ret
    exact ⟨by rw [E.out]; rfl, HB.out⟩
  by_cases h2 : 8 < r
  · have E := Lib.hid (cnt_out (A := A) (.inr h2))
    have g1 : decide (r < 1) = false := decide_eq_false h1
    have g2 : decide (8 < r) = true := decide_eq_true h2
    go_enter Try.func42, Try.ntmps42
    go_wp2_with fail
    go_ret
    exact ⟨by rw [E.out]; rfl, HB.out⟩
  · obtain ⟨k, rfl⟩ : ∃ k : Nat, r = (k : Int) + 1 := ⟨(r - 1).toNat, by omega⟩
    have hk : k < 8 := by omega
    have E := Lib.hid (cnt_in (A := A) hk)
    have g1 : decide ((k : Int) + 1 < 1) = false := decide_eq_false h1
    have g2 : decide (8 < (k : Int) + 1) = false := decide_eq_false h2
    have g3 : (k : Int) + 1 - 1 = (k : Int) := by omega
    have c := ((Own.new w (arr8 A) 28).cell k).trans (arr_get A hk)
    have k0 : (0 : Int) ≤ (k : Int) := by omega
    have k1 : (k : Int) < 8 := by omega
    clear h1 h2
    go_enter Try.func42, Try.ntmps42
    go_wp2_with fail
    go_ret
    exact ⟨by rw [E.out]; rfl, HB.out⟩
set_option maxHeartbeats 1000000 in
theorem hasVec_calls (A : Nat → Int) (r c : Int) (w : World) :
    Calls Try.prog 57 #[vecV A, .agg #[.int .i64 r, .int .i64 c]] w fun e w' => e = .returned (.bool (hasV A r c)) ∧ Below w.heap.size w w' := by
  have G1 := Lib.hid ((Has.new w (arr8 A) 28).alloc (.cells #[.int .i64 r, .int .i64 c] 62))
  have G2 := Lib.hid ((Own.newAt (w.alloc (.cells (arr8 A) 28)) #[.int .i64 r, .int .i64 c] 62 (b := w.heap.size + 1) (by simp)).has)
  have LA := fun dd os o => G1.out.regrown dd os o
  have LB := fun dd os o => G2.out.regrown dd os o
  have m := fun dd os => Lib.hid (Calls.regrown_of (count_calls A r (Sort.grow (redrawn ((w.alloc (.cells (arr8 A) 28)).alloc (.cells #[.int .i64 r, .int .i64 c] 62)) dd) os)))
  unfold hasV
  generalize cntV A r = n at *
  cases hg : decide (1 ≤ c)
  all_goals
    go_enter Try.func57, Try.ntmps57
    go_wp2_with fail
    refine wp_region_quiet_below (by kernel_rfl) (by kernel_rfl) ?_
    repeat (first | go_big_quiet_step ((with_reducible exact (m _ _).out)) | quiet_step (with_reducible exact (m _ _).out))
    refine wpQuiet_nil ?_
    intro w7 hw'
    have hb' := Lib.hid (regrown_below hw')
    clear hw'
    go_wp2_with fail
    go_ret
    exact ⟨ret_bool (by simp), below_new (below_new hb'.out)⟩
def VAllRel (P : Nat → Prop) (w0 : World) (i : Value) (wr : World) : Prop := ∃ k : Nat, k ≤ 8 ∧ i = .int .i64 k ∧ Hid (∀ j, j < k → P j) ∧ Below w0.heap.size w0 wr
theorem all_step {P : Nat → Prop} {k : Nat} (h : ∀ j, j < k → P j) (hk : P k) : ∀ j, j < k + 1 → P j := by
  intro j hj
  by_cases e : j = k
  · rw [e]; exact hk
  · exact h j (by omega)
set_option maxHeartbeats 2000000 in
theorem mayVec_calls (A : Nat → Int) (w : World) :
    Calls Try.prog 38 #[vecV A] w fun e w' => e = .returned (.bool (mayV A)) ∧ Below w.heap.size w w' := by
  go_enter Try.func38, Try.ntmps38
  go_wp2_with fail
  go_loopw [3] (fun i wr => VAllRel (fun j => 0 ≤ A j ∧ A j ≤ 1000) (w.alloc (.cells (arr8 A) 28)) i wr) (fun i _ => 8 - (intOf i).toNat)
  case atStart => exact ⟨0, by omega, rfl, fun j hj => absurd hj (by omega), Below.refl _ _⟩
  case round =>
    obtain ⟨k, hk, rfl, HS, hb⟩ := hrel
    have BW := Lib.hid (below_new hb)
    have G1 := Lib.hid ((Has.new w (arr8 A) 28).below hb (by simp))
    have HB := Lib.hid hb
    clear hb
    by_cases hlt : k < 8
    · have c := (G1.out.cell k).trans (arr_get A hlt)
      have k0 : (0 : Int) ≤ (k : Int) := by omega
      have k1 : (k : Int) < 8 := by omega
      by_cases h : A k < 0
      · have E := Lib.hid (mayV_false hlt (.inl h))
        have g : decide (A k < 0) = true := decide_eq_true h
        go_wp2_with fail
        go_ret
        exact ⟨ret_bool E.out.symm, BW.out⟩
      by_cases h' : 1000 < A k
      · have E := Lib.hid (mayV_false hlt (.inr h'))
        have g : decide (A k < 0) = false := decide_eq_false h
        have g' : decide (1000 < A k) = true := decide_eq_true h'
        go_wp2_with fail
        go_ret
        exact ⟨ret_bool E.out.symm, BW.out⟩
      · have HN := Lib.hid (all_step (P := fun j => 0 ≤ A j ∧ A j ≤ 1000) HS.out (by omega))
        have g : decide (A k < 0) = false := decide_eq_false h
        have g' : decide (1000 < A k) = false := decide_eq_false h'
        go_wp2_with fail
        go_roundw
        case rel => exact ⟨k + 1, by omega, by go_num, HN.out, HB.out⟩
        case measure => simp [intOf]; omega
    · have e : k = 8 := by omega
      subst e
      have E := Lib.hid (mayV_iff.2 HS.out)
      go_wp2_with fail
      go_ret
      exact ⟨ret_bool E.out.symm, BW.out⟩
def upTo (k : Nat) (M : Nat → Int) (j : Nat) : Int := if j < k then M j else 0
theorem upTo_step (M : Nat → Int) (k : Nat) : (fun j => if j = k then M k else upTo k M j) = upTo (k + 1) M := by
  funext j; unfold upTo; split
  · rename_i h; rw [h, if_pos (by omega)]
  · split
    · rw [if_pos (by omega)]
    · rw [if_neg (by omega)]
structure MSt (A B M : Nat → Int) (k : Nat) (w wr : World) : Prop where
  o1 : Own wr w.heap.size (arr8 A) 28
  o2 : Own wr (w.heap.size + 1) (arr8 B) 28
  o3 : Own wr (w.heap.size + 1 + 1) (arr8 fun _ => 0) 28
  o4 : Own wr (w.heap.size + 1 + 1 + 1) (arr8 (upTo k M)) 28
  bel : Below w.heap.size w wr
theorem MSt.later {A B M : Nat → Int} {k : Nat} {w wr w' : World} (h : MSt A B M k w wr) (hb : Below wr.heap.size wr w') : MSt A B M k w w' :=
  ⟨h.o1.later hb, h.o2.later hb, h.o3.later hb, h.o4.later hb, h.bel.trans (hb.mono h.bel.size)⟩
theorem MSt.put {A B M : Nat → Int} {k : Nat} {w wr : World} (h : MSt A B M k w wr) (hk : k < 8) (v : Int) :
    Own (wr.setCell ⟨w.heap.size + 1 + 1 + 1, k, none⟩ (.int .i64 v)) (w.heap.size + 1 + 1 + 1) (arr8 (fun j => if j = k then v else upTo k M j)) 28 ∧ ∀ F, Own wr (w.heap.size + 1 + 1 + 1) (arr8 F) 28 → Own (wr.setCell ⟨w.heap.size + 1 + 1 + 1, k, none⟩ (.int .i64 v)) (w.heap.size + 1 + 1 + 1) (arr8 (fun j => if j = k then v else F j)) 28 := by
  refine ⟨?_, fun F hF => ?_⟩
  · rw [← arr_set _ hk]; exact h.o4.set k _
  · rw [← arr_set _ hk]; exact hF.set k _
theorem MSt.step {A B M : Nat → Int} {k : Nat} {w wr w' : World} (h : MSt A B M k w wr) (h1 : Own w' w.heap.size (arr8 A) 28) (h2 : Own w' (w.heap.size + 1) (arr8 B) 28) (h3 : Own w' (w.heap.size + 1 + 1) (arr8 fun _ => 0) 28)
    (h4 : Own w' (w.heap.size + 1 + 1 + 1) (arr8 (fun j => if j = k then M k else upTo k M j)) 28) (hb : Below w.heap.size w w') : MSt A B M (k + 1) w w' :=
  ⟨h1, h2, h3, by rw [← upTo_step]; exact h4, hb⟩
def MxRel (A B M : Nat → Int) (w : World) (i : Value) (wr : World) : Prop := ∃ k : Nat, k ≤ 8 ∧ i = .int .i64 k ∧ Hid (MSt A B M k w wr)
end Go.Proofs.Ytjepnaefkfkpcaa
/- What is known: how it lies. No walk. -/
namespace Go.Proofs.Ytjepnaefkfkpcaa
set_option linter.unusedVariables false
set_option linter.unusedSimpArgs false
set_option maxRecDepth 100000
open Go.RowKit
structure TxAt (w : World) (l : List ByteArray) (oa : Option Addr) (cap b o : Nat) : Prop where
  len : l.length ≤ cap
  max : cap ≤ maxLen
  at0 : 0 < l.length → oa = some ⟨b, o, none⟩ ∧ b < w.heap.size
  cell : ∀ k s, l[k]? = some s → w.cell? ⟨b, o + k, none⟩ = some (.string s)
  ok : ∀ s ∈ l, s.size ≤ maxLen
def TxW (w : World) (l : List ByteArray) (v : Value) : Prop := ∃ oa cap b o, v = .slice oa l.length cap ∧ TxAt w l oa cap b o
theorem posA {α : Type} {l : List α} {k : Nat} {a : α} (h : l[k]? = some a) : k < l.length := (List.getElem?_eq_some_iff.1 h).1
theorem TxAt.later {w w' : World} {l : List ByteArray} {oa : Option Addr} {cap b o B : Nat} (h : TxAt w l oa cap b o) (hb : Below B w w') (hB : w.heap.size ≤ B) : TxAt w' l oa cap b o := by
  refine ⟨h.len, h.max, fun h0 => ⟨(h.at0 h0).1, Nat.lt_of_lt_of_le (h.at0 h0).2 hb.size⟩, fun k s hk => ?_, h.ok⟩
  have hlt : b < w.heap.size := (h.at0 (by have := posA hk; omega)).2
  exact (hb.cell (p := ⟨b, o + k, none⟩) (by show b < B; omega)).trans (h.cell k s hk)
theorem TxW.later {w w' : World} {l : List ByteArray} {v : Value} {B : Nat} (h : TxW w l v) (hb : Below B w w') (hB : w.heap.size ≤ B) : TxW w' l v := by
  obtain ⟨oa, cap, b, o, e, h⟩ := h
  exact ⟨oa, cap, b, o, e, h.later hb hB⟩
theorem TxW.val {w : World} {l : List ByteArray} {v : Value} (h : TxW w l v) : ∃ oa cap, v = .slice oa l.length cap := by
  obtain ⟨oa, cap, _, _, e, _⟩ := h
  exact ⟨oa, cap, e⟩
theorem TxW.ok {w : World} {l : List ByteArray} {v : Value} (h : TxW w l v) : ∀ s ∈ l, s.size ≤ maxLen := by
  obtain ⟨_, _, _, _, _, h⟩ := h
  exact h.ok
abbrev fc (f : Fr) (u : Value) : List Value := [u, .int .i64 (f.v 0), .int .i64 (f.v 1), .int .i64 (f.v 2), .int .i64 (f.v 3), .int .i64 (f.v 4), .int .i64 (f.v 5), .int .i64 (f.v 6), .int .i64 (f.v 7)]
structure FrAt (w : World) (l : List Fr) (U : Nat → Value) (oa : Option Addr) (cap b o : Nat) : Prop where
  len : l.length ≤ cap
  max : cap ≤ maxLen
  at0 : 0 < l.length → oa = some ⟨b, o, none⟩ ∧ b < w.heap.size
  cell : ∀ k f, l[k]? = some f → ∀ j u, (fc f (U k))[j]? = some u → w.cell? ⟨b, o + k * 9 + j, none⟩ = some u
  ids : ∀ k f, l[k]? = some f → TxW w f.ids (U k)
def FrW (w : World) (l : List Fr) (v : Value) : Prop := ∃ U oa cap b o, v = .slice oa l.length cap ∧ FrAt w l U oa cap b o
theorem FrAt.later {w w' : World} {l : List Fr} {U : Nat → Value} {oa : Option Addr} {cap b o B : Nat} (h : FrAt w l U oa cap b o) (hb : Below B w w') (hB : w.heap.size ≤ B) : FrAt w' l U oa cap b o := by
  refine ⟨h.len, h.max, fun h0 => ⟨(h.at0 h0).1, Nat.lt_of_lt_of_le (h.at0 h0).2 hb.size⟩, fun k f hk j u hu => ?_, fun k f hk => (h.ids k f hk).later hb hB⟩
  have hlt : b < w.heap.size := (h.at0 (by have := posA hk; omega)).2
  exact (hb.cell (p := ⟨b, o + k * 9 + j, none⟩) (by show b < B; omega)).trans (h.cell k f hk j u hu)
theorem FrW.later {w w' : World} {l : List Fr} {v : Value} {B : Nat} (h : FrW w l v) (hb : Below B w w') (hB : w.heap.size ≤ B) : FrW w' l v := by
  obtain ⟨U, oa, cap, b, o, e, h⟩ := h
  exact ⟨U, oa, cap, b, o, e, h.later hb hB⟩
theorem FrW.val {w : World} {l : List Fr} {v : Value} (h : FrW w l v) : ∃ oa cap, v = .slice oa l.length cap := by
  obtain ⟨_, oa, cap, _, _, e, _⟩ := h
  exact ⟨oa, cap, e⟩
theorem fc_cells {w : World} {f : Fr} {u : Value} {b o : Nat} (h : ∀ j z, (fc f u)[j]? = some z → w.cell? ⟨b, o + j, none⟩ = some z) :
    w.cell? ⟨b, o, none⟩ = some u ∧ w.cell? ⟨b, o + 1, none⟩ = some (.int .i64 (f.v 0)) ∧ w.cell? ⟨b, o + 2, none⟩ = some (.int .i64 (f.v 1)) ∧ w.cell? ⟨b, o + 3, none⟩ = some (.int .i64 (f.v 2)) ∧ w.cell? ⟨b, o + 4, none⟩ = some (.int .i64 (f.v 3)) ∧ w.cell? ⟨b, o + 5, none⟩ = some (.int .i64 (f.v 4)) ∧ w.cell? ⟨b, o + 6, none⟩ = some (.int .i64 (f.v 5)) ∧ w.cell? ⟨b, o + 7, none⟩ = some (.int .i64 (f.v 6)) ∧ w.cell? ⟨b, o + 8, none⟩ = some (.int .i64 (f.v 7)) :=
  ⟨h 0 _ rfl, h 1 _ rfl, h 2 _ rfl, h 3 _ rfl, h 4 _ rfl, h 5 _ rfl, h 6 _ rfl, h 7 _ rfl, h 8 _ rfl⟩
abbrev knV (A : Nat → Int) (v : Value) : Value := .agg #[.int .i64 (A 0), .int .i64 (A 1), .int .i64 (A 2), .int .i64 (A 3), .int .i64 (A 4), .int .i64 (A 5), .int .i64 (A 6), .int .i64 (A 7), v]
abbrev knA (A : Nat → Int) (v : Value) : Array Value := #[.int .i64 (A 0), .int .i64 (A 1), .int .i64 (A 2), .int .i64 (A 3), .int .i64 (A 4), .int .i64 (A 5), .int .i64 (A 6), .int .i64 (A 7), v]
/-! ### Texts that the call owns -/
def txC (l : List ByteArray) : List Value := l.map .string
def OwnT (w : World) (base : Nat) (l : List ByteArray) (v : Value) : Prop := w.ownsRow base 9 1 v l.length (txC l)
theorem OwnT.nil (w : World) (base : Nat) : OwnT w base [] (.slice none 0 0) := World.ownsRow_nil _ _ _ _
theorem OwnT.later {w w' : World} {base : Nat} {l : List ByteArray} {v : Value} (h : OwnT w base l v) (hb : Below w.heap.size w w') : OwnT w' base l v := ownsRow_below h hb
theorem OwnT.alloc {w : World} {base : Nat} {l : List ByteArray} {v : Value} (h : OwnT w base l v) (o : Obj) : OwnT (w.alloc o) base l v := h.later ((Below.refl _ _).alloc (Nat.le_refl _) _)
theorem OwnT.mono {w : World} {base base' : Nat} {l : List ByteArray} {v : Value} (h : OwnT w base l v) (hb : base' ≤ base) : OwnT w base' l v := by
  obtain ⟨h1, h2⟩ := h
  refine ⟨h1, ?_⟩
  rcases h2 with h2 | ⟨g, cap, cur, hv, hg, r⟩
  · exact .inl h2
  · exact .inr ⟨g, cap, cur, hv, Nat.le_trans hb hg, r⟩
theorem OwnT.val {w : World} {base : Nat} {l : List ByteArray} {v : Value} (h : OwnT w base l v) : ∃ oa cap, v = .slice oa l.length cap := by
  obtain ⟨oa, cap, g, e, _⟩ := row_slice h
  exact ⟨oa, cap, e⟩
theorem OwnT.tx {w : World} {base : Nat} {l : List ByteArray} {v : Value} (h : OwnT w base l v) (hok : ∀ s ∈ l, s.size ≤ maxLen) : TxW w l v := by
  obtain ⟨oa, cap, g, e, h1, h2, hg⟩ := row_slice h
  subst e
  refine ⟨oa, cap, g, 0, rfl, h1, h2, fun h0 => ⟨(hg h0).1, (hg h0).2.2⟩, fun k s hk => ?_, hok⟩
  have hlt := posA hk
  obtain ⟨rfl, _⟩ := hg (by omega)
  unfold OwnT at h
  rw [Nat.zero_add, h.cellAt k (by omega)]
  simp [txC, hk]
theorem newsT {w : World} {s : ByteArray} {t : TypeId} : ∀ j u, ([.string s] : List Value)[j]? = some u → (w.alloc (.cells #[.string s] t)).cell? ((⟨w.heap.size, 0, none⟩ : Addr).add j) = some u :=
  World.news_of_block (cs := #[.string s]) (t := t) (fr := (0, 0)) (heap_alloc_new w _)
theorem oneT (s : ByteArray) : ∀ u ∈ ([.string s] : List Value), u.oneCell' = true := by
  intro u hu; simp at hu; subst hu; rfl
theorem OwnT.push {w : World} {base n g cap : Nat} {l : List ByteArray} {s : ByteArray} (h : w.ownsRow base 9 1 (.slice (some ⟨g, 0, none⟩) n cap) n (txC l ++ [.string s])) (hn : n = l.length + 1) : OwnT w base (l ++ [s]) (.slice (some ⟨g, 0, none⟩) n cap) := by
  unfold OwnT
  rw [List.length_append, txC, List.map_append]
  subst hn
  exact h
theorem below_pushT {w0 w w' : World} {B base : Nat} {l : List ByteArray} {v : Value} (h : OwnT w base l v) (hb : Below B w0 w) (hB : B ≤ base) (hg : w.grownBy w' v.ownBlock) (hsz : B ≤ w.heap.size) : Below B w0 w' :=
  hb.grown hg hsz fun k hk => by have := (World.ownsRow.lt h k hk).1; omega
theorem info_text : (Try.prog.info? 9).map (fun i => (i.zero, i.size, i.bytes)) = some (some (.string ⟨#[]⟩), 1, 16) := by kernel_rfl
theorem info_frag : (Try.prog.info? 88).map (fun i => (i.zero, i.size, i.bytes)) = some (some (.agg #[.slice none 0 0, .int .i64 0, .int .i64 0, .int .i64 0, .int .i64 0, .int .i64 0, .int .i64 0, .int .i64 0, .int .i64 0]), 9, 88) := by kernel_rfl
theorem takeT {α : Type} {l : List α} {k : Nat} {i : α} (h : l[k]? = some i) : l.take (k + 1) = l.take k ++ [i] := by
  obtain ⟨hk, e⟩ := List.getElem?_eq_some_iff.1 h
  rw [List.take_succ_eq_append_getElem hk, e]
end Go.Proofs.Ytjepnaefkfkpcaa
