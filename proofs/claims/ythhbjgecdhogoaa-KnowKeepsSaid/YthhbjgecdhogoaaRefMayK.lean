/- What is known: the document's May, walked. -/
import Derived.Test.YthhbjgecdhogoaaRefPlainK
import Derived.Test.YthhbjgecdhogoaaRefAlike
import Derived.Deep.RegionHeld3
namespace Go.Proofs.Ythhbjgecdhogoaa
set_option linter.unusedVariables false
set_option linter.unusedSimpArgs false
open Go.RowKit

def mayFr (nm : ByteArray → Bool) (f : Fr) : Bool := mayV f.v && f.ids.all nm
def mayK (nm : ByteArray → Bool) (a : Kn) : Bool := (alikeK a (plainB a) && mayV a.star) && a.l.all (mayFr nm)
structure MkS (w : World) (X : Array Value) (wr : World) : Prop where
  o1 : Has wr w.heap.size X
  bel : Below w.heap.size w wr
theorem MkS.later {w wr w' : World} {X : Array Value} (h : MkS w X wr) (hb : Below wr.heap.size wr w') : MkS w X w' :=
  ⟨h.o1.below hb h.o1.lt, h.bel.trans (hb.mono h.bel.size)⟩
def MkRel (p : Fr → Bool) (l : List Fr) (len : Nat) (X : Array Value) (w : World) (iv : Value) (wr : World) : Prop :=
  ∃ k : Nat, k ≤ len ∧ iv = .int .i64 k ∧ Hid (∀ j f, j < k → l[j]? = some f → p f = true) ∧ Hid (MkS w X wr)
def MkRel2 (p : ByteArray → Bool) (l : List ByteArray) (len : Nat) (X : Array Value) (w : World) (iv : Value) (wr : World) : Prop :=
  ∃ k : Nat, k ≤ len ∧ iv = .int .i64 k ∧ Hid (∀ j f, j < k → l[j]? = some f → p f = true) ∧ Hid (MkS w X wr)
theorem all_of {α : Type} {p : α → Bool} {l : List α} (h : ∀ j f, j < l.length → l[j]? = some f → p f = true) : l.all p = true := by
  rw [List.all_eq_true]
  intro f hf
  obtain ⟨j, hj, e⟩ := List.mem_iff_getElem.1 hf
  exact h j f hj (by rw [List.getElem?_eq_getElem hj, e])
theorem all_not_of {α : Type} {p : α → Bool} {l : List α} {j : Nat} {f : α} (h : l[j]? = some f) (hp : p f = false) : l.all p = false := by
  rw [List.all_eq_false]
  exact ⟨f, List.mem_of_getElem? h, by simp [hp]⟩

set_option maxRecDepth 100000 in
set_option maxHeartbeats 8000000 in
theorem refMayK_calls (nm : ByteArray → Bool) (HNM : ∀ (s : ByteArray) (w : World), s.size ≤ maxLen → Calls Try.prog 42 #[.string s] w fun e w' => e = .returned (.bool (nm s)) ∧ w = w')
    (a : Kn) (v : Value) (w : World) (hR : FrW w a.l v) (hl1 : (flatI a.l).length ≤ 10000) :
    Calls Try.prog 18 #[knV a.star v] w fun e w' => e = .returned (.bool (mayK nm a)) ∧ Below w.heap.size w w' := by
  have hRR := hR
  obtain ⟨U, ov, cv, b0, o, rfl, hr⟩ := hR
  have HR := Lib.hid hr
  have hcap := hr.len
  have hmax := hr.max
  unfold maxLen at hmax
  clear hr
  have PA := fun w' h => Lib.hid (refPlainK_calls a (.slice ov a.l.length cv) w' h hl1)
  have AK := fun va vb w' h h' => Lib.hid (show Calls Try.prog 8 #[knV a.star va, knV a.star vb] w' (fun e w'' => e = .returned (.bool (alikeK a (plainB a))) ∧ Below w'.heap.size w' w'') from alike_calls a (plainB a) va vb w' h h')
  have MV := fun (f : Nat → Int) w' => Lib.hid (mayVec_calls f w')
  have OA := Lib.hid (Has.new w (knA a.star (.slice ov a.l.length cv)) 26)
  have BEL := Lib.hid ((Below.refl w.heap.size w).alloc (Nat.le_refl _) (.cells (knA a.star (.slice ov a.l.length cv)) 26))
  have LA := Lib.hid (hRR.later BEL.out (Nat.le_refl _))
  clear hRR hl1
  have HE := Lib.hid (show mayK nm a = ((alikeK a (plainB a) && mayV a.star) && a.l.all (mayFr nm)) from rfl)
  generalize mayK nm a = res at *
  generalize alikeK a (plainB a) = x1 at *
  generalize hx2 : mayV a.star = x2 at *
  have HX2 := Lib.hid hx2
  clear hx2
  generalize hn : a.l.length = len at *
  have HN := Lib.hid hn
  clear hn
  go_enter Try.func18, Try.ntmps18
  go_wp2_with fail
  replace OA := Lib.hid (OA.out.drew)
  replace LA := Lib.hid (LA.out.later (Below.refl _ _).drew (Nat.le_refl _))
  replace BEL := Lib.hid (BEL.out.drew)
  go_region_held3 (fun w' => ∀ o, w'.cell? ⟨w.heap.size, o, none⟩ = (knA a.star (.slice ov len cv))[o]?) (exact OA.out.cell)
    (first
      | (go_simp; go_at_call 10; refine (PA _ LA.out).out.mono ?_; rintro e wa ⟨va, rfl, hfa, hb⟩; replace hfa := hfa.fr; obtain ⟨oa, ca, rfl⟩ := hfa.val; have LPA := Lib.hid hfa; replace OA := Lib.hid (OA.out.below hb OA.out.lt); replace LA := Lib.hid (LA.out.later hb (Nat.le_refl _)); replace BEL := Lib.hid (BEL.out.trans (hb.mono BEL.out.size)); clear hb; clear hfa)
      | (go_simp; go_at_call 8; refine (AK _ _ _ LA.out LPA.out).out.mono ?_; rintro e wc ⟨rfl, hb⟩; replace OA := Lib.hid (OA.out.below hb OA.out.lt); replace BEL := Lib.hid (BEL.out.trans (hb.mono BEL.out.size)); clear hb))
  rename World => W9
  clear PA AK LA
  have MV2 := Lib.hid (MV a.star W9)
  rw [HX2.out] at MV2
  have MV0 := MV2.out
  have lOA := OA.out.cell
  have zOA := OA.out.lt
  cases x1
  · go_wp2_with (go_at_call 41; refine MV0.out.mono ?_; rintro e wb ⟨rfl, hb⟩)
    go_ret
    exact ⟨ret_bool (by rw [HE.out]; rfl), BEL.out.trans (hb.mono BEL.out.size)⟩
  cases x2
  · go_wp2_with (go_at_call 41; refine MV0.out.mono ?_; rintro e wb ⟨rfl, hb⟩)
    go_ret
    exact ⟨ret_bool (by rw [HE.out]; rfl), BEL.out.trans (hb.mono BEL.out.size)⟩
  have HE2 := Lib.hid (show res = a.l.all (mayFr nm) by rw [HE.out]; rfl)
  clear HE
  go_wp2_with (go_at_call 41; refine MV0.out.mono ?_; rintro e wb ⟨rfl, hb⟩; have HS0 := Lib.hid (show MkS w (knA a.star (.slice ov len cv)) wb from ⟨OA.out.below hb OA.out.lt, BEL.out.trans (hb.mono BEL.out.size)⟩))
  clear hb lOA zOA OA BEL MV0 MV2 HX2
  go_loopw [5] (fun iv wr => MkRel (mayFr nm) a.l len (knA a.star (.slice ov len cv)) w iv wr) (fun iv _ => len - (intOf iv).toNat)
  case atStart => exact ⟨0, Nat.zero_le _, rfl, fun j f hj => absurd hj (by omega), HS0⟩
  case round =>
    clear HS0
    obtain ⟨k, hk, rfl, HA, HS⟩ := hrel
    have l1 := HS.out.o1.cell
    have z1 := HS.out.o1.lt
    by_cases hlt : k < len
    · obtain ⟨f, hf⟩ : ∃ f, a.l[k]? = some f := ⟨_, List.getElem?_eq_getElem (by rw [HN.out]; exact hlt)⟩
      obtain ⟨rfl, hb0⟩ := HR.out.at0 (by rw [HN.out]; omega)
      obtain ⟨c0, c1, c2, c3, c4, c5, c6, c7, c8⟩ := fc_cells (w := wr) (fun j z hz => (HS.out.bel.cell (p := ⟨b0, o + k * 9 + j, none⟩) hb0).trans (HR.out.cell k f hf j z hz))
      obtain ⟨ou, cu, bu, qu, hu, ht⟩ := HR.out.ids k f hf
      have zb := Nat.lt_of_lt_of_le hb0 HS.out.bel.size
      have M := MV f.v wr
      have HF := Lib.hid hf
      have HU := Lib.hid hu
      have hcu := ht.len
      have hmu := ht.max
      unfold maxLen at hmu
      have HT := Lib.hid ht
      clear hf hu ht
      generalize hnf : f.ids.length = nf at *
      have HNF := Lib.hid hnf
      clear hnf
      have HFR := Lib.hid (show mayFr nm f = (mayV f.v && f.ids.all nm) from rfl)
      generalize mayV f.v = mv at *
      cases mv
      · have E := Lib.hid (show res = false by rw [HE2.out]; exact all_not_of HF.out (by rw [HFR.out]; rfl))
        go_wp2_with (go_at_call 41; refine M.out.mono ?_; rintro e wb ⟨rfl, hb⟩)
        go_ret
        exact ⟨ret_bool E.out.symm, HS.out.bel.trans (hb.mono HS.out.bel.size)⟩
      go_wp2_with (go_at_call 41; refine M.out.mono ?_; rintro e wb ⟨rfl, hb⟩; have HS7 := Lib.hid (HS.out.later hb))
      clear hb l1 z1 c0 c1 c2 c3 c4 c5 c6 c7 c8 zb HS M
      go_loopw [7] (fun iv wr => MkRel2 nm f.ids nf (knA a.star (.slice (some ⟨b0, o, none⟩) len cv)) w iv wr) (fun iv _ => nf - (intOf iv).toNat)
      case atStart => exact ⟨0, Nat.zero_le _, rfl, fun j f hj => absurd hj (by omega), HS7⟩
      case round =>
        clear HS7
        obtain ⟨j, hj, rfl, HB, HS⟩ := hrel
        have l1 := HS.out.o1.cell
        have z1 := HS.out.o1.lt
        obtain ⟨c0, _⟩ := fc_cells (w := wr) (fun j z hz => (HS.out.bel.cell (p := ⟨b0, o + k * 9 + j, none⟩) hb0).trans (HR.out.cell k f HF.out j z hz))
        rw [HU.out] at c0
        have zb := Nat.lt_of_lt_of_le hb0 HS.out.bel.size
        by_cases hjt : j < nf
        · obtain ⟨x, hx⟩ : ∃ x, f.ids[j]? = some x := ⟨_, List.getElem?_eq_getElem (by rw [HNF.out]; exact hjt)⟩
          obtain ⟨rfl, hb1⟩ := HT.out.at0 (by rw [HNF.out]; omega)
          have x0 := (HS.out.bel.cell (p := ⟨bu, qu + j, none⟩) hb1).trans (HT.out.cell j x hx)
          have zu := Nat.lt_of_lt_of_le hb1 HS.out.bel.size
          have NX := Lib.hid (HNM x wr (HT.out.ok x (List.mem_of_getElem? hx)))
          have HX := Lib.hid hx
          clear hx
          cases hnx : nm x
          · rw [hnx] at NX
            have E := Lib.hid (show res = false by rw [HE2.out]; exact all_not_of HF.out (by rw [HFR.out, all_not_of HX.out hnx]; rfl))
            clear hnx
            go_wp2_with (go_at_call 42; refine NX.out.mono ?_; rintro e wb ⟨rfl, rfl⟩)
            go_ret
            exact ⟨ret_bool E.out.symm, HS.out.bel⟩
          · rw [hnx] at NX
            have HB2 := Lib.hid (show ∀ q g, q < j + 1 → f.ids[q]? = some g → nm g = true from fun q g hq hg => by
              by_cases e : q = j
              · subst e; rw [HX.out] at hg; cases hg; exact hnx
              · exact HB.out q g (by omega) hg)
            clear hnx
            go_wp2_with (go_at_call 42; refine NX.out.mono ?_; rintro e wb ⟨rfl, rfl⟩)
            go_roundw
            case rel => exact ⟨j + 1, by omega, by go_num, HB2, HS⟩
            case measure => simp [intOf]; omega
        · have e : nf = j := by omega
          subst e
          have HA2 := Lib.hid (show ∀ q g, q < k + 1 → a.l[q]? = some g → mayFr nm g = true from fun q g hq hg => by
            by_cases e : q = k
            · subst e
              rw [HF.out] at hg; cases hg
              rw [HFR.out, all_of (fun j x hj hx => HB.out j x (by rw [HNF.out] at hj; exact hj) hx)]; rfl
            · exact HA.out q g (by omega) hg)
          go_wp2_with fail
          go_roundw
          case rel => exact ⟨k + 1, by omega, by go_num, HA2, HS⟩
          case measure => simp [intOf]; omega
    · have e : len = k := by omega
      subst e
      have E := Lib.hid (show res = true by rw [HE2.out]; exact all_of (fun j x hj hx => HA.out j x (by rw [HN.out] at hj; exact hj) hx))
      go_wp2_with fail
      go_ret
      exact ⟨ret_bool E.out.symm, HS.out.bel⟩

end Go.Proofs.Ythhbjgecdhogoaa
