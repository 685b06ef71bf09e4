/- Joined: RefMayK, StM, RefSt2, RefJoin. -/
import Derived.Test.YtjkcooakddlppaaGreatJ12
import Derived.Test.YtjkcooakddlppaaGreatJ09
import Derived.Deep.RegionHeld3
import Derived.Test.YtjkcooakddlppaaGreatJ10
import Derived.Test.YtjkcooakddlppaaGreatJ13
import Derived.Test.YtjkcooakddlppaaGreatJ14
import Derived.Deep.CutBlock
import Derived.Deep.DeepCutAuto
/- What is known: the document's May, walked. -/
namespace Go.Proofs.YtjkcooakddlppaaGreat
set_option linter.unusedVariables false
set_option linter.unusedSimpArgs false
set_option maxRecDepth 100000
open Go.RowKit
def mayFr (nm : ByteArray → Bool) (f : Fr) : Bool := mayV f.v && f.ids.all nm
def mayK (nm : ByteArray → Bool) (a : Kn) : Bool := (alikeK a (plainB a) && mayV a.star) && a.l.all (mayFr nm)
structure MkS (w : World) (X : Array Value) (wr : World) : Prop where
  o1 : Has wr w.heap.size X
  bel : Below w.heap.size w wr
theorem MkS.later {w wr w' : World} {X : Array Value} (h : MkS w X wr) (hb : Below wr.heap.size wr w') : MkS w X w' :=
  ⟨h.o1.below hb h.o1.lt, h.bel.trans (hb.mono h.bel.size)⟩
def MkRel (p : Fr → Bool) (l : List Fr) (len : Nat) (X : Array Value) (w : World) (iv : Value) (wr : World) : Prop :=
  ∃ k : Nat, k ≤ len ∧ iv = .int .i64 k ∧ Hid (∀ j f, j < k → l[j]? = some f → p f = true) ∧ Hid (MkS w X wr)
def MkRel2 (p : ByteArray → Bool) (l : List ByteArray) (len : Nat) (X : Array Value) (w : World) (iv : Value) (wr : World) : Prop :=
  ∃ k : Nat, k ≤ len ∧ iv = .int .i64 k ∧ Hid (∀ j f, j < k → l[j]? = some f → p f = true) ∧ Hid (MkS w X wr)
theorem all_of {α : Type} {p : α → Bool} {l : List α} (h : ∀ j f, j < l.length → l[j]? = some f → p f = true) : l.all p = true := by
  rw [List.all_eq_true]
  intro f hf
  obtain ⟨j, hj, e⟩ := List.mem_iff_getElem.1 hf
  exact h j f hj (by rw [List.getElem?_eq_getElem hj, e])
theorem all_not_of {α : Type} {p : α → Bool} {l : List α} {j : Nat} {f : α} (h : l[j]? = some f) (hp : p f = false) : l.all p = false := by
  rw [List.all_eq_false]
  exact ⟨f, List.mem_of_getElem? h, by simp [hp]⟩
set_option maxRecDepth 100000 in
set_option maxHeartbeats 8000000 in
theorem refMayK_calls (nm : ByteArray → Bool) (HNM : ∀ (s : ByteArray) (w : World), s.size ≤ maxLen → Calls Tryz.prog 83 #[.string s] w fun e w' => e = .returned (.bool (nm s)) ∧ w = w')
    (a : Kn) (v : Value) (w : World) (hR : FrW w a.l v) (hl1 : (flatI a.l).length ≤ 10000) :
    Calls Tryz.prog 34 #[knV a.star v] w fun e w' => e = .returned (.bool (mayK nm a)) ∧ Below w.heap.size w w' := by
  have hRR := hR
  obtain ⟨U, ov, cv, b0, o, rfl, hr⟩ := hR
  have HR := Lib.hid hr
  have hcap := hr.len
  have hmax := hr.max
  unfold maxLen at hmax
  clear hr
  have PA := fun w' h => Lib.hid (refPlainK_calls a (.slice ov a.l.length cv) w' h hl1)
  have AK := fun va vb w' h h' => Lib.hid (show Calls Tryz.prog 52 #[knV a.star va, knV a.star vb] w' (fun e w'' => e = .returned (.bool (alikeK a (plainB a))) ∧ Below w'.heap.size w' w'') from alike_calls a (plainB a) va vb w' h h')
  have MV := fun (f : Nat → Int) w' => Lib.hid (mayVec_calls f w')
  have OA := Lib.hid (Has.new w (knA a.star (.slice ov a.l.length cv)) 31)
  have BEL := Lib.hid ((Below.refl w.heap.size w).alloc (Nat.le_refl _) (.cells (knA a.star (.slice ov a.l.length cv)) 31))
  have LA := Lib.hid (hRR.later BEL.out (Nat.le_refl _))
  clear hRR hl1
  have HE := Lib.hid (show mayK nm a = ((alikeK a (plainB a) && mayV a.star) && a.l.all (mayFr nm)) from rfl)
  generalize mayK nm a = res at *
  generalize alikeK a (plainB a) = x1 at *
  generalize hx2 : mayV a.star = x2 at *
  have HX2 := Lib.hid hx2
  clear hx2
  generalize hn : a.l.length = len at *
  have HN := Lib.hid hn
  clear hn
  go_enter Tryz.func34, Tryz.ntmps34
  go_wp2_with fail
  replace OA := Lib.hid (OA.out.drew)
  replace LA := Lib.hid (LA.out.later (Below.refl _ _).drew (Nat.le_refl _))
  replace BEL := Lib.hid (BEL.out.drew)
  go_region_held3 (fun w' => ∀ o, w'.cell? ⟨w.heap.size, o, none⟩ = (knA a.star (.slice ov len cv))[o]?) (exact OA.out.cell)
    (first
      | (go_simp; go_at_call 81; refine (PA _ LA.out).out.mono ?_; rintro e wa ⟨va, rfl, hfa, hb⟩; replace hfa := hfa.fr; obtain ⟨oa, ca, rfl⟩ := hfa.val; have LPA := Lib.hid hfa; replace OA := Lib.hid (OA.out.below hb OA.out.lt); replace LA := Lib.hid (LA.out.later hb (Nat.le_refl _)); replace BEL := Lib.hid (BEL.out.trans (hb.mono BEL.out.size)); clear hb; clear hfa)
      | (go_simp; go_at_call 52; refine (AK _ _ _ LA.out LPA.out).out.mono ?_; rintro e wc ⟨rfl, hb⟩; replace OA := Lib.hid (OA.out.below hb OA.out.lt); replace BEL := Lib.hid (BEL.out.trans (hb.mono BEL.out.size)); clear hb))
  rename World => W9
  clear PA AK LA
  have MV2 := Lib.hid (MV a.star W9)
  rw [HX2.out] at MV2
  have MV0 := MV2.out
  have lOA := OA.out.cell
  have zOA := OA.out.lt
  cases x1
  · go_wp2_with (go_at_call 82; refine MV0.out.mono ?_; rintro e wb ⟨rfl, hb⟩)
    go_ret
    exact ⟨ret_bool (by rw [HE.out]; rfl), BEL.out.trans (hb.mono BEL.out.size)⟩
  cases x2
  · go_wp2_with (go_at_call 82; refine MV0.out.mono ?_; rintro e wb ⟨rfl, hb⟩)
    go_ret
    exact ⟨ret_bool (by rw [HE.out]; rfl), BEL.out.trans (hb.mono BEL.out.size)⟩
  have HE2 := Lib.hid (show res = a.l.all (mayFr nm) by rw [HE.out]; rfl)
  clear HE
  go_wp2_with (go_at_call 82; refine MV0.out.mono ?_; rintro e wb ⟨rfl, hb⟩; have HS0 := Lib.hid (show MkS w (knA a.star (.slice ov len cv)) wb from ⟨OA.out.below hb OA.out.lt, BEL.out.trans (hb.mono BEL.out.size)⟩))
  clear hb lOA zOA OA BEL MV0 MV2 HX2
  go_loopw [5] (fun iv wr => MkRel (mayFr nm) a.l len (knA a.star (.slice ov len cv)) w iv wr) (fun iv _ => len - (intOf iv).toNat)
  case atStart => exact ⟨0, Nat.zero_le _, rfl, fun j f hj => absurd hj (by omega), HS0⟩
  case round =>
    clear HS0
    obtain ⟨k, hk, rfl, HA, HS⟩ := hrel
    have l1 := HS.out.o1.cell
    have z1 := HS.out.o1.lt
    by_cases hlt : k < len
    · obtain ⟨f, hf⟩ : ∃ f, a.l[k]? = some f := ⟨_, List.getElem?_eq_getElem (by rw [HN.out]; exact hlt)⟩
      obtain ⟨rfl, hb0⟩ := HR.out.at0 (by rw [HN.out]; omega)
      obtain ⟨c0, c1, c2, c3, c4, c5, c6, c7, c8⟩ := fc_cells (w := wr) (fun j z hz => (HS.out.bel.cell (p := ⟨b0, o + k * 9 + j, none⟩) hb0).trans (HR.out.cell k f hf j z hz))
      obtain ⟨ou, cu, bu, qu, hu, ht⟩ := HR.out.ids k f hf
      have zb := Nat.lt_of_lt_of_le hb0 HS.out.bel.size
      have M := MV f.v wr
      have HF := Lib.hid hf
      have HU := Lib.hid hu
      have hcu := ht.len
      have hmu := ht.max
      unfold maxLen at hmu
      have HT := Lib.hid ht
      clear hf hu ht
      generalize hnf : f.ids.length = nf at *
      have HNF := Lib.hid hnf
      clear hnf
      have HFR := Lib.hid (show mayFr nm f = (mayV f.v && f.ids.all nm) from rfl)
      generalize mayV f.v = mv at *
      cases mv
      · have E := Lib.hid (show res = false by rw [HE2.out]; exact all_not_of HF.out (by rw [HFR.out]; rfl))
        go_wp2_with (go_at_call 82; refine M.out.mono ?_; rintro e wb ⟨rfl, hb⟩)
        go_ret
        exact ⟨ret_bool E.out.symm, HS.out.bel.trans (hb.mono HS.out.bel.size)⟩
      go_wp2_with (go_at_call 82; refine M.out.mono ?_; rintro e wb ⟨rfl, hb⟩; have HS7 := Lib.hid (HS.out.later hb))
      clear hb l1 z1 c0 c1 c2 c3 c4 c5 c6 c7 c8 zb HS M
      go_loopw [7] (fun iv wr => MkRel2 nm f.ids nf (knA a.star (.slice (some ⟨b0, o, none⟩) len cv)) w iv wr) (fun iv _ => nf - (intOf iv).toNat)
      case atStart => exact ⟨0, Nat.zero_le _, rfl, fun j f hj => absurd hj (by omega), HS7⟩
      case round =>
        clear HS7
        obtain ⟨j, hj, rfl, HB, HS⟩ := hrel
        have l1 := HS.out.o1.cell
        have z1 := HS.out.o1.lt
        obtain ⟨c0, _⟩ := fc_cells (w := wr) (fun j z hz => (HS.out.bel.cell (p := ⟨b0, o + k * 9 + j, none⟩) hb0).trans (HR.out.cell k f HF.out j z hz))
        rw [HU.out] at c0
        have zb := Nat.lt_of_lt_of_le hb0 HS.out.bel.size
        by_cases hjt : j < nf
        · obtain ⟨x, hx⟩ : ∃ x, f.ids[j]? = some x := ⟨_, List.getElem?_eq_getElem (by rw [HNF.out]; exact hjt)⟩
          obtain ⟨rfl, hb1⟩ := HT.out.at0 (by rw [HNF.out]; omega)
          have x0 := (HS.out.bel.cell (p := ⟨bu, qu + j, none⟩) hb1).trans (HT.out.cell j x hx)
          have zu := Nat.lt_of_lt_of_le hb1 HS.out.bel.size
          have NX := Lib.hid (HNM x wr (HT.out.ok x (List.mem_of_getElem? hx)))
          have HX := Lib.hid hx
          clear hx
          cases hnx : nm x
          · rw [hnx] at NX
            have E := Lib.hid (show res = false by rw [HE2.out]; exact all_not_of HF.out (by rw [HFR.out, all_not_of HX.out hnx]; rfl))
            clear hnx
            go_wp2_with (go_at_call 83; refine NX.out.mono ?_; rintro e wb ⟨rfl, rfl⟩)
            go_ret
            exact ⟨ret_bool E.out.symm, HS.out.bel⟩
          · rw [hnx] at NX
            have HB2 := Lib.hid (show ∀ q g, q < j + 1 → f.ids[q]? = some g → nm g = true from fun q g hq hg => by
              by_cases e : q = j
              · subst e; rw [HX.out] at hg; cases hg; exact hnx
              · exact HB.out q g (by omega) hg)
            clear hnx
            go_wp2_with (go_at_call 83; refine NX.out.mono ?_; rintro e wb ⟨rfl, rfl⟩)
            go_roundw
            case rel => exact ⟨j + 1, by omega, by go_num, HB2, HS⟩
            case measure => simp [intOf]; omega
        · have e : nf = j := by omega
          subst e
          have HA2 := Lib.hid (show ∀ q g, q < k + 1 → a.l[q]? = some g → mayFr nm g = true from fun q g hq hg => by
            by_cases e : q = k
            · subst e
              rw [HF.out] at hg; cases hg
              rw [HFR.out, all_of (fun j x hj hx => HB.out j x (by rw [HNF.out] at hj; exact hj) hx)]; rfl
            · exact HA.out q g (by omega) hg)
          go_wp2_with fail
          go_roundw
          case rel => exact ⟨k + 1, by omega, by go_num, HA2, HS⟩
          case measure => simp [intOf]; omega
    · have e : len = k := by omega
      subst e
      have E := Lib.hid (show res = true by rw [HE2.out]; exact all_of (fun j x hj hx => HA.out j x (by rw [HN.out] at hj; exact hj) hx))
      go_wp2_with fail
      go_ret
      exact ⟨ret_bool E.out.symm, HS.out.bel⟩
end Go.Proofs.YtjkcooakddlppaaGreat
/- States: what they are as plain data, how they lie, what may be. No walk. -/
namespace Go.Proofs.YtjkcooakddlppaaGreat
set_option linter.unusedVariables false
set_option linter.unusedSimpArgs false
set_option maxRecDepth 100000
open Go.RowKit
structure St where
  r : Int
  f : Pr
  store : List Itm
  out : List Itm
  k : Kn
  count : Int
  clock : Int
  epoch : Int
abbrev prV (p : Pr) (v : Value) : Value := .agg #[.int .i64 p.op, .string p.text, .int .i64 p.n, .complex .f64 p.x p.y, v]
abbrev stA (s : St) (fv sv ov kv : Value) : Array Value := #[.int .i64 s.r, .int .i64 s.f.op, .string s.f.text, .int .i64 s.f.n, .complex .f64 s.f.x s.f.y, fv, sv, ov, .int .i64 (s.k.star 0), .int .i64 (s.k.star 1), .int .i64 (s.k.star 2), .int .i64 (s.k.star 3), .int .i64 (s.k.star 4), .int .i64 (s.k.star 5), .int .i64 (s.k.star 6), .int .i64 (s.k.star 7), kv, .int .i64 s.count, .int .i64 s.clock, .int .i64 s.epoch]
abbrev stV (s : St) (fv sv ov kv : Value) : Value := .agg #[.int .i64 s.r, .int .i64 s.f.op, .string s.f.text, .int .i64 s.f.n, .complex .f64 s.f.x s.f.y, fv, sv, ov, .int .i64 (s.k.star 0), .int .i64 (s.k.star 1), .int .i64 (s.k.star 2), .int .i64 (s.k.star 3), .int .i64 (s.k.star 4), .int .i64 (s.k.star 5), .int .i64 (s.k.star 6), .int .i64 (s.k.star 7), kv, .int .i64 s.count, .int .i64 s.clock, .int .i64 s.epoch]
structure StW (w : World) (s : St) (fv sv ov kv : Value) : Prop where
  lf : LP w s.f fv
  ls : Row 8 ic w s.store sv
  lo : Row 8 ic w s.out ov
  lk : FrW w s.k.l kv
theorem StW.later {w w' : World} {s : St} {fv sv ov kv : Value} (h : StW w s fv sv ov kv) (hb : Below w.heap.size w w') : StW w' s fv sv ov kv :=
  ⟨h.lf.later hb (Nat.le_refl _), h.ls.later hb, h.lo.later hb, h.lk.later hb (Nat.le_refl _)⟩
theorem StW.alloc {w : World} {s : St} {fv sv ov kv : Value} (h : StW w s fv sv ov kv) (o : Obj) : StW (w.alloc o) s fv sv ov kv := h.later ((Below.refl _ _).alloc (Nat.le_refl _) _)
theorem StW.drew {w : World} {s : St} {fv sv ov kv : Value} (h : StW w s fv sv ov kv) : StW w.drew s fv sv ov kv := h.later (Below.refl _ _).drew
theorem StW.regrown {w : World} {s : St} {fv sv ov kv : Value} (h : StW w s fv sv ov kv) (d : Nat) (os : Array Obj) : StW (Sort.grow (redrawn w d) os) s fv sv ov kv := h.later (below_regrown w d os)
structure StB (s : St) : Prop where
  f : s.f.size ≤ 60
  ls : s.store.length ≤ 200
  lo : s.out.length ≤ 200
  kl : s.k.l.length ≤ 5000
  ki : (flatI s.k.l).length ≤ 5000
def Itm.it (i : Itm) : It := ⟨i.id, i.kd, i.num, i.x, i.y⟩
def hasT (f : Pr) (i : Itm) : Bool := f.hasB i.it
theorem hasT_calls (i : Itm) (hid : i.id.size ≤ maxLen) (p : Pr) (v : Value) (w : World) (h : LP w p v) (hp : p.size ≤ 1000) :
    Calls Tryz.prog 48 #[prV p v, iV i] w fun e w' => e = .returned (.bool (hasT p i)) ∧ Below w.heap.size w w' :=
  refHas_calls i.it i.r i.c i.st i.d hid p v w h hp
def beyS (k : Kn) (r count : Int) : Bool := decide (count < cntV k.star r) || k.l.any fun q => decide (count < cntV q.v r)
def stoodI (s : St) (want : Bool) (i : Itm) : Bool := (hasT s.f i == want) && (hasK s.k i.id i.r i.c && decide (i.st ≤ s.clock))
def stoodB (s : St) (l : List Itm) (want : Bool) : Bool := l.all (stoodI s want)
def twiceB (s : St) : Bool := s.out.all fun i => !(getI s.store i.id).2
def numS (s : St) : Bool := inB s.count 0 1000 && (inB s.clock 0 1000000 && inB s.epoch 0 1000000)
def headS (s : St) : Bool := Pr.mayB s.f && (mayLB s.store && (mayLB s.out && (mayK nameB s.k && (inB s.r 1 8 && decide (s.store.length + s.out.length ≤ 40)))))
def mayS (s : St) : Bool := headS s && (numS s && (twiceB s && (stoodB s s.store true && (stoodB s s.out false && !beyS s.k s.r s.count))))
def sameS (a b : St) : Bool := (decide (a.r = b.r) && (decide (a.count = b.count) && (decide (a.clock = b.clock) && decide (a.epoch = b.epoch)))) && (Pr.same a.f b.f && (sameL sameT a.store b.store && (sameL sameT a.out b.out && alikeK a.k b.k)))
end Go.Proofs.YtjkcooakddlppaaGreat
/- States: the document's Beyond and stood, walked. -/
namespace Go.Proofs.YtjkcooakddlppaaGreat
set_option linter.unusedVariables false
set_option linter.unusedSimpArgs false
set_option maxRecDepth 100000
open Go.RowKit
def AllL {α : Type} (p : α → Bool) (l : List α) (len : Nat) (X : Array Value) (w : World) (iv : Value) (wr : World) : Prop :=
  ∃ k : Nat, k ≤ len ∧ iv = .int .i64 k ∧ Hid (∀ j f, j < k → l[j]? = some f → p f = true) ∧ Hid (MkS w X wr)
theorem allL_next {α : Type} {p : α → Bool} {l : List α} {k : Nat} {f : α} (h : ∀ j f, j < k → l[j]? = some f → p f = true) (hf : l[k]? = some f) (hp : p f = true) : ∀ j f, j < k + 1 → l[j]? = some f → p f = true := by
  intro j g hj hg
  by_cases e : j = k
  · subst e; rw [hf] at hg; cases hg; exact hp
  · exact h j g (by omega) hg
set_option maxRecDepth 100000 in
set_option maxHeartbeats 8000000 in
theorem refBeyond_calls (K : Kn) (r count : Int) (v : Value) (w : World) (hR : FrW w K.l v) :
    Calls Tryz.prog 36 #[knV K.star v, .int .i64 r, .int .i64 count] w fun e w' => e = .returned (.bool (beyS K r count)) ∧ Below w.heap.size w w' := by
  obtain ⟨A, l⟩ := K
  simp only at hR ⊢
  obtain ⟨U, oa, cap, b0, o, rfl, hr⟩ := hR
  have HR := Lib.hid hr
  have hcap := hr.len
  have hmax := hr.max
  unfold maxLen at hmax
  clear hr
  have HE := Lib.hid (show beyS ⟨A, l⟩ r count = (decide (count < cntV A r) || l.any fun q => decide (count < cntV q.v r)) from rfl)
  generalize beyS ⟨A, l⟩ r count = res at *
  generalize hn : l.length = len at *
  have HN := Lib.hid hn
  clear hn
  have HI0 := Lib.hid (show MkS w (knA A (.slice oa len cap)) (w.alloc (.cells (knA A (.slice oa len cap)) 31)) from ⟨Has.new w _ _, (Below.refl _ _).alloc (Nat.le_refl _) _⟩)
  have C := fun w' => Lib.hid (count_calls A r w')
  have hq : ∃ q, q = cntV A r := ⟨_, rfl⟩
  obtain ⟨q, hq⟩ := hq
  rw [← hq] at C HE
  clear hq
  by_cases hlt0 : count < q
  · have E := Lib.hid (show res = true by rw [HE.out, decide_eq_true hlt0]; rfl)
    have g0 : decide (count < q) = true := decide_eq_true hlt0
    clear hlt0
    go_enter Tryz.func36, Tryz.ntmps36
    go_wp2_with (first | (go_at_call 84; refine (C _).out.mono ?_; rintro e w2 ⟨rfl, hb2⟩) | fail)
    go_ret
    exact ⟨ret_bool E.out.symm, (HI0.out.later hb2).bel⟩
  have HE2 := Lib.hid (show res = l.any fun q => decide (count < cntV q.v r) by rw [HE.out, decide_eq_false hlt0]; rfl)
  have g0 : decide (count < q) = false := decide_eq_false hlt0
  clear HE hlt0
  go_enter Tryz.func36, Tryz.ntmps36
  go_wp2_with (first | (go_at_call 84; refine (C _).out.mono ?_; rintro e w2 ⟨rfl, hb2⟩; have HI2 := Lib.hid (HI0.out.later hb2)) | fail)
  clear hb2 HI0 C
  go_loopw [7] (fun iv wr => AllL (fun q => !decide (count < cntV q.v r)) l len (knA A (.slice oa len cap)) w iv wr) (fun iv _ => len - (intOf iv).toNat)
  case atStart => exact ⟨0, Nat.zero_le _, rfl, fun j f hj => absurd hj (by omega), HI2⟩
  case round =>
    clear HI2 g0
    obtain ⟨k, hk, rfl, HA, HS⟩ := hrel
    have l1 := HS.out.o1.cell
    have z1 := HS.out.o1.lt
    by_cases hlt : k < len
    · obtain ⟨f, hf⟩ : ∃ f, l[k]? = some f := ⟨_, List.getElem?_eq_getElem (by rw [HN.out]; exact hlt)⟩
      obtain ⟨rfl, hb0⟩ := HR.out.at0 (by rw [HN.out]; omega)
      obtain ⟨c0, c1, c2, c3, c4, c5, c6, c7, c8⟩ := fc_cells (w := wr) (fun j z hz => (HS.out.bel.cell (p := ⟨b0, o + k * 9 + j, none⟩) hb0).trans (HR.out.cell k f hf j z hz))
      have zb := Nat.lt_of_lt_of_le hb0 HS.out.bel.size
      clear c0
      have C := fun w' => Lib.hid (count_calls f.v r w')
      have HF := Lib.hid hf
      clear hf
      have k0 : (0 : Int) ≤ (k : Int) := by omega
      have k1 : (k : Int) < (len : Int) := by omega
      have hx : ∃ x, x = cntV f.v r := ⟨_, rfl⟩
      obtain ⟨x, hx⟩ := hx
      rw [← hx] at C
      have HX := Lib.hid hx
      clear hx
      by_cases hc : count < x
      · have E := Lib.hid (show res = true by
          rw [HE2.out, List.any_eq_true]
          exact ⟨f, List.mem_of_getElem? HF.out, by rw [← HX.out]; exact decide_eq_true hc⟩)
        have g1 : decide (count < x) = true := decide_eq_true hc
        clear hc
        go_wp2_with (first | (go_at_call 84; refine (C _).out.mono ?_; rintro e w2 ⟨rfl, hb2⟩) | fail)
        go_ret
        exact ⟨ret_bool E.out.symm, (HS.out.later hb2).bel⟩
      · have g1 : decide (count < x) = false := decide_eq_false hc
        have HN2 := Lib.hid (allL_next HA.out HF.out (by rw [← HX.out, g1]; rfl))
        clear hc
        go_wp2_with (first | (go_at_call 84; refine (C _).out.mono ?_; rintro e w2 ⟨rfl, hb2⟩; have HS7 := Lib.hid (HS.out.later hb2); clear hb2) | fail)
        go_roundw
        case rel => exact ⟨k + 1, by omega, by go_num, HN2, HS7⟩
        case measure => simp [intOf]; omega
    · have e : len = k := by omega
      subst e
      have E := Lib.hid (show res = false by
        rw [HE2.out, List.any_eq_false]
        intro f hf
        obtain ⟨j, hj, e⟩ := List.mem_iff_getElem.1 hf
        have := HA.out j f (by have := HN.out; omega) (by rw [List.getElem?_eq_getElem hj, e])
        simpa using this)
      go_wp2_with fail
      go_ret
      exact ⟨ret_bool E.out.symm, HS.out.bel⟩
set_option maxRecDepth 100000 in
set_option maxHeartbeats 8000000 in
theorem refStood_calls (s : St) (fv sv ov kv : Value) (l : List Itm) (v : Value) (want : Bool) (w : World) (hS : StW w s fv sv ov kv) (hR : Row 8 ic w l v) (hf : s.f.size ≤ 1000) :
    Calls Tryz.prog 35 #[stV s fv sv ov kv, v, .bool want] w fun e w' => e = .returned (.bool (stoodB s l want)) ∧ Below w.heap.size w w' := by
  obtain ⟨oa, cap, b, o, rfl, hr⟩ := hR
  have HR := Lib.hid hr
  have hcap := hr.len
  have hmax := hr.max
  unfold maxLen at hmax
  clear hr
  have HE := Lib.hid (show stoodB s l want = l.all (stoodI s want) from rfl)
  generalize stoodB s l want = res at *
  generalize hn : l.length = len at *
  have HN := Lib.hid hn
  clear hn
  have HI0 := Lib.hid (show MkS w (stA s fv sv ov kv) (w.alloc (.cells (stA s fv sv ov kv) 46)) from ⟨Has.new w _ _, (Below.refl _ _).alloc (Nat.le_refl _) _⟩)
  have HW := Lib.hid hS
  have HF0 := Lib.hid hf
  clear hS hf
  go_enter Tryz.func35, Tryz.ntmps35
  go_wp2_with fail
  go_loopw [7] (fun iv wr => AllL (stoodI s want) l len (stA s fv sv ov kv) w iv wr) (fun iv _ => len - (intOf iv).toNat)
  case atStart => exact ⟨0, Nat.zero_le _, rfl, fun j f hj => absurd hj (by omega), HI0⟩
  case round =>
    clear HI0
    obtain ⟨k, hk, rfl, HA, HS⟩ := hrel
    have l1 := HS.out.o1.cell
    have z1 := HS.out.o1.lt
    by_cases hlt : k < len
    · obtain ⟨i, hf⟩ : ∃ f, l[k]? = some f := ⟨_, List.getElem?_eq_getElem (by rw [HN.out]; exact hlt)⟩
      obtain ⟨rfl, hb0⟩ := HR.out.at0 (by rw [HN.out]; omega)
      have HF := Lib.hid hf
      clear hf
      have k0 : (0 : Int) ≤ (k : Int) := by omega
      have k1 : (k : Int) < (len : Int) := by omega
      have hid := (HR.out.ok i (List.mem_of_getElem? HF.out)).1
      have HC := Lib.hid (fun (wx : World) (hb : Below w.heap.size w wx) => ic_cells (w := wx) (fun j z hz => (hb.cell (p := ⟨b, o + k * 8 + j, none⟩) hb0).trans (HR.out.cell k i HF.out j z hz)))
      have HID := Lib.hid hid
      have HB0 := Lib.hid hb0
      clear hid
      obtain ⟨c0, c1, c2, c3, c4, c5, c6, c7⟩ := HC.out wr HS.out.bel
      have LA := fun dd os q => HS.out.o1.regrown dd os q
      have r0 := fun dd os => cell_regrown c0 dd os
      have r1 := fun dd os => cell_regrown c1 dd os
      have r2 := fun dd os => cell_regrown c2 dd os
      have r3 := fun dd os => cell_regrown c3 dd os
      have r4 := fun dd os => cell_regrown c4 dd os
      have r5 := fun dd os => cell_regrown c5 dd os
      have r6 := fun dd os => cell_regrown c6 dd os
      have r7 := fun dd os => cell_regrown c7 dd os
      have m1 := fun dd os => Lib.hid (Calls.regrown_of (hasT_calls i HID.out s.f fv (Sort.grow (redrawn wr dd) os) (((HW.out.lf.later HS.out.bel (Nat.le_refl _))).later (below_regrown wr dd os) (Nat.le_refl _)) HF0.out))
      clear c0 c1 c2 c3 c4 c5 c6 c7
      generalize hq1 : hasT s.f i = x1 at *
      have HQ1 := Lib.hid hq1
      clear hq1
      go_upto_region 4 with fail
      refine wp_region_quiet_below (by kernel_rfl) (by kernel_rfl) ?_
      repeat (first | go_big_quiet_step ((with_reducible exact (m1 _ _).out)) | quiet_step (with_reducible exact (m1 _ _).out))
      refine wpQuiet_nil ?_
      intro w7 hw'
      have hb' := Lib.hid (regrown_below hw')
      clear hw' m1 LA r0 r1 r2 r3 r4 r5 r6 r7 l1
      have HS7 := Lib.hid (HS.out.later hb'.out)
      have zz : w.heap.size < w7.heap.size := HS7.out.o1.lt
      clear hb'
      obtain ⟨c0, c1, c2, c3, c4, c5, c6, c7⟩ := HC.out w7 HS7.out.bel
      have LA := fun dd os q => HS7.out.o1.regrown dd os q
      have r0 := fun dd os => cell_regrown c0 dd os
      have r1 := fun dd os => cell_regrown c1 dd os
      have r2 := fun dd os => cell_regrown c2 dd os
      have m2 := fun dd os => Lib.hid (Calls.regrown_of (refHasK_calls s.k i.id i.r i.c kv (Sort.grow (redrawn w7 dd) os) (((HW.out.lk.later HS7.out.bel (Nat.le_refl _))).later (below_regrown w7 dd os) (Nat.le_refl _))))
      clear c0 c1 c2 c3 c4 c5 c6 c7
      generalize hq2 : hasK s.k i.id i.r i.c = x2 at *
      have HQ2 := Lib.hid hq2
      clear hq2
      go_upto_region 5 with fail
      refine wp_region_quiet_below (by kernel_rfl) (by kernel_rfl) ?_
      repeat (first | go_big_quiet_step ((with_reducible exact (m2 _ _).out)) | quiet_step (with_reducible exact (m2 _ _).out))
      refine wpQuiet_nil ?_
      intro w8 hw'
      have hb' := Lib.hid (regrown_below hw')
      clear hw' m2 LA r0 r1 r2
      have HS8 := Lib.hid (HS7.out.later hb'.out)
      clear hb'
      obtain ⟨c0, c1, c2, c3, c4, c5, c6, c7⟩ := HC.out w8 HS8.out.bel
      have LA := fun dd os q => HS8.out.o1.regrown dd os q
      have r3 := fun dd os => cell_regrown c3 dd os
      have z8 := HS8.out.o1.lt
      clear c0 c1 c2 c3 c4 c5 c6 c7 z1 zz
      have HI := Lib.hid (show stoodI s want i = ((x1 == want) && (x2 && decide (i.st ≤ s.clock))) by unfold stoodI; rw [HQ1.out, HQ2.out])
      cases ht : decide (s.clock < i.st)
      all_goals
        cases x1
        all_goals
          cases x2
          all_goals
            cases want
            all_goals
              go_upto_region 6 with fail
              refine wp_region_quiet_below (by kernel_rfl) (by kernel_rfl) ?_
              repeat (first | go_big_quiet_step (fail) | quiet_step (fail))
              refine wpQuiet_nil ?_
              intro w9 hw'
              have hb' := Lib.hid (regrown_below hw')
              clear hw' LA r3
              have HS9 := Lib.hid (HS8.out.later hb'.out)
              clear hb'
              go_wp2_with fail
              first
                | (go_roundw
                   case rel => exact ⟨k + 1, by omega, by go_num, Lib.hid (allL_next HA.out HF.out (by rw [HI.out]; simp at ht ⊢; omega)), HS9⟩
                   case measure => simp [intOf]; omega)
                | (go_ret
                   exact ⟨ret_bool (by
                     rw [HE.out]
                     refine (all_not_of HF.out ?_).symm
                     rw [HI.out]
                     simp at ht ⊢ <;> omega), HS9.out.bel⟩)
    · have e : len = k := by omega
      subst e
      have E := Lib.hid (show res = true by
        rw [HE.out]
        exact all_of fun j f hj hf => HA.out j f (by have := HN.out; omega) hf)
      go_wp2_with fail
      go_ret
      exact ⟨ret_bool E.out.symm, HS.out.bel⟩
end Go.Proofs.YtjkcooakddlppaaGreat
/- What is known: the document's Join, walked. -/
namespace Go.Proofs.YtjkcooakddlppaaGreat
set_option linter.unusedVariables false
set_option linter.unusedSimpArgs false
set_option maxRecDepth 100000
open Go.RowKit
theorem row_fr {w : World} {base : Nat} {l : List Fr} {U : Nat → Value} {v : Value} (h : w.ownsRow base 115 9 v l.length (frCs U 0 l)) (ht : ∀ k f, l[k]? = some f → TxW w f.ids (U k)) : FrW w l v := by
  obtain ⟨oa, cap, g, e, h1, h2, hg⟩ := row_slice h
  subst e
  refine ⟨U, oa, cap, g, 0, rfl, h1, h2, fun h0 => ⟨(hg h0).1, (hg h0).2.2⟩, fun k f hf j u hu => ?_, ht⟩
  have hk := posA hf
  obtain ⟨rfl, _⟩ := hg (by omega)
  have hj : j < 9 := (List.getElem?_eq_some_iff.1 hu).1
  rw [Nat.zero_add, h.cellAt (k * 9 + j) (by omega), frCs_get _ _ _ _ _ hf _ hj, Nat.zero_add]
  exact hu
theorem fr_news {w : World} {l : List Fr} {U : Nat → Value} {oa : Option Addr} {cap b o : Nat} (h : FrAt w l U oa cap b o) : ∀ j u, (frCs U 0 l)[j]? = some u → w.cell? ((⟨b, o, none⟩ : Addr).add j) = some u := by
  intro j u hu
  have hadd : (⟨b, o, none⟩ : Addr).add j = ⟨b, o + j, none⟩ := by unfold Addr.add; split <;> simp_all
  rw [hadd]
  have hj := (List.getElem?_eq_some_iff.1 hu).1
  rw [frCs_len] at hj
  have hi : j / 9 < l.length := by omega
  have hp : l[j / 9]? = some l[j / 9] := List.getElem?_eq_getElem hi
  have e : j = j / 9 * 9 + j % 9 := by omega
  rw [e, frCs_get _ _ _ _ _ hp _ (by omega), Nat.zero_add] at hu
  have := h.cell _ _ hp _ _ hu
  rw [show o + j / 9 * 9 + j % 9 = o + j by omega] at this
  exact this
theorem frCs_one {U : Nat → Value} {s : Nat} {l : List Fr} (h : ∀ i f, l[i]? = some f → (U (s + i)).oneCell' = true) : ∀ u ∈ frCs U s l, u.oneCell' = true := by
  induction l generalizing s with
  | nil => simp [frCs]
  | cons p l ih =>
    intro u hu
    simp only [frCs, List.mem_append] at hu
    rcases hu with hu | hu
    · exact oneF p (h 0 p rfl) u hu
    · exact ih (s := s + 1) (fun i q hq => by have := h (i + 1) q (by simpa using hq); rwa [show s + 1 + i = s + (i + 1) by omega]) u hu
theorem fr_one {w : World} {l : List Fr} {U : Nat → Value} {oa : Option Addr} {cap b o : Nat} (h : FrAt w l U oa cap b o) : ∀ u ∈ frCs U 0 l, u.oneCell' = true :=
  frCs_one fun i f hf => by
    obtain ⟨ou, cu, e⟩ := (h.ids i f hf).val
    rw [Nat.zero_add, e]; rfl
def glueU (n : Nat) (U V : Nat → Value) : Nat → Value := fun i => if i < n then U i else V (i - n)
theorem frCs_glue (U V : Nat → Value) (l m : List Fr) : frCs U 0 l ++ frCs V 0 m = frCs (glueU l.length U V) 0 (l ++ m) := by
  rw [frCs_app]
  congr 1
  · exact frCs_congr fun i hi => by simp [glueU, hi]
  · have : ∀ (m : List Fr) (s : Nat), frCs V s m = frCs (glueU l.length U V) (l.length + s) m := by
      intro m
      induction m with
      | nil => intro s; rfl
      | cons p m ih =>
        intro s
        rw [frCs, frCs, ih (s + 1), show l.length + s + 1 = l.length + (s + 1) by omega]
        have e : glueU l.length U V (l.length + s) = V s := by unfold glueU; rw [if_neg (by omega), show l.length + s - l.length = s by omega]
        rw [e]
    have := this m 0
    rw [Nat.add_zero] at this
    rw [Nat.zero_add]
    exact this
theorem glue_fr {w : World} {base : Nat} {l m : List Fr} {U V : Nat → Value} {v : Value} (h : w.ownsRow base 115 9 v (l.length + m.length) (frCs U 0 l ++ frCs V 0 m)) (h1 : ∀ k f, l[k]? = some f → TxW w f.ids (U k)) (h2 : ∀ k f, m[k]? = some f → TxW w f.ids (V k)) : FrW w (l ++ m) v := by
  rw [frCs_glue] at h
  refine row_fr (U := glueU l.length U V) (by rw [List.length_append]; exact h) fun k f hf => ?_
  by_cases hk : k < l.length
  · rw [List.getElem?_append_left hk] at hf
    have : glueU l.length U V k = U k := by unfold glueU; rw [if_pos hk]
    rw [this]; exact h1 k f hf
  · rw [List.getElem?_append_right (by omega)] at hf
    have : glueU l.length U V k = V (k - l.length) := by unfold glueU; rw [if_neg hk]
    rw [this]; exact h2 _ f hf
end Go.Proofs.YtjkcooakddlppaaGreat
