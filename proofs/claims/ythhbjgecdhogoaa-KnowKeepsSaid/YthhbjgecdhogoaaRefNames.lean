/- What is known: the document's Names, walked. -/
import Derived.Test.YthhbjgecdhogoaaRefKnow1
namespace Go.Proofs.Ythhbjgecdhogoaa
set_option linter.unusedVariables false
set_option linter.unusedSimpArgs false
open Go.RowKit

def NmRel (F : Nat → List ByteArray) (len : Nat) (X : Array Value) (w : World) (lv iv : Value) (wr : World) : Prop :=
  ∃ (k : Nat) (sv : Value), k ≤ len ∧ iv = .int .i64 k ∧ sv = lv ∧ Hid (OwnT wr w.heap.size (insAll (F k)) sv) ∧ Hid (Has wr w.heap.size X) ∧ Hid (Below w.heap.size w wr)
theorem flat_snoc {l : List Fr} {k : Nat} {f : Fr} (h : l[k]? = some f) : flatI (l.take (k + 1)) = flatI (l.take k) ++ f.ids := by
  unfold flatI; rw [takeT h, List.flatMap_append]; simp
theorem flat_take_sub {l : List Fr} {k : Nat} {s : ByteArray} (h : s ∈ flatI (l.take k)) : s ∈ flatI l := by
  unfold flatI at *
  rw [List.mem_flatMap] at *
  obtain ⟨f, hf, hs⟩ := h
  exact ⟨f, List.mem_of_mem_take hf, hs⟩
theorem flat_len {l : List Fr} {k : Nat} : (flatI (l.take k)).length ≤ (flatI l).length := by
  have h : flatI l = flatI (l.take k) ++ flatI (l.drop k) := by unfold flatI; rw [← List.flatMap_append, List.take_append_drop]
  rw [h, List.length_append]; omega
theorem fr_ok {w : World} {l : List Fr} {U : Nat → Value} {oa : Option Addr} {cap b o : Nat} (h : FrAt w l U oa cap b o) : ∀ s ∈ flatI l, s.size ≤ maxLen := by
  intro s hs
  unfold flatI at hs
  rw [List.mem_flatMap] at hs
  obtain ⟨f, hf, hs⟩ := hs
  obtain ⟨k, hk, e⟩ := List.mem_iff_getElem.1 hf
  exact (h.ids k f (by rw [List.getElem?_eq_getElem hk, e])).ok s hs

set_option maxRecDepth 100000 in
set_option maxHeartbeats 4000000 in
theorem names_calls (l : List Fr) (A : Nat → Int) (v : Value) (w : World) (hR : FrW w l v) (hlen : (flatI l).length ≤ 10000) :
    Calls Try.prog 27 #[knV A v] w fun e w' => ∃ v', e = .returned v' ∧ OwnT w' w.heap.size (insAll (flatI l)) v' ∧ Below w.heap.size w w' := by
  obtain ⟨U, oa, cap, b, o, rfl, hr⟩ := hR
  have HR := Lib.hid hr
  have HOK := Lib.hid (fr_ok hr)
  have hcap := hr.len
  have hmax := hr.max
  unfold maxLen at hmax
  clear hr
  have HFL := Lib.hid hlen
  clear hlen
  generalize hn : l.length = len at *
  have HN := Lib.hid hn
  clear hn
  go_enter Try.func27, Try.ntmps27
  go_wp2_with fail
  go_loopw [3, 4] (fun lv iv wr => NmRel (fun k => flatI (l.take k)) len (knA A (.slice oa len cap)) w lv iv wr) (fun _ iv _ => len - (intOf iv).toNat)
  case atStart => exact ⟨0, _, Nat.zero_le _, rfl, rfl, by unfold Hid; exact OwnT.nil _ _, by unfold Hid; exact Has.new _ _ _, by unfold Hid; exact (Below.refl _ _).alloc (Nat.le_refl _) _⟩
  case round =>
    obtain ⟨k, sv, hk, rfl, rfl, HO, HX, HB⟩ := hrel
    replace HO := Lib.hid (show OwnT wr w.heap.size (insAll (flatI (l.take k))) sv from HO.out)
    have l1 := HX.out.cell
    have z1 := HX.out.lt
    by_cases hlt : k < len
    · obtain ⟨f, hf⟩ : ∃ f, l[k]? = some f := ⟨_, List.getElem?_eq_getElem (by rw [HN.out]; exact hlt)⟩
      obtain ⟨rfl, hb0⟩ := HR.out.at0 (by rw [HN.out]; omega)
      obtain ⟨ou, cu, bu, oo, hu, ht⟩ := HR.out.ids k f hf
      obtain ⟨c0, _⟩ := fc_cells (w := wr) (fun j z hz => (HB.out.cell (p := ⟨b, o + k * 9 + j, none⟩) hb0).trans (HR.out.cell k f hf j z hz))
      rw [hu] at c0
      have hcu := ht.len
      have hmu := ht.max
      unfold maxLen at hmu
      have HT := Lib.hid ht
      have HF := Lib.hid hf
      have HU := Lib.hid hu
      clear ht hf hu
      generalize hn2 : f.ids.length = nf at *
      have HNF := Lib.hid hn2
      clear hn2
      have zb := Nat.lt_of_lt_of_le hb0 HB.out.size
      go_wp2_with fail
      clear l1 z1 c0 zb
      go_loopw [3, 5] (fun lv iv wr => NmRel (fun j => flatI (l.take k) ++ f.ids.take j) nf (knA A (.slice (some ⟨b, o, none⟩) len cap)) w lv iv wr) (fun _ iv _ => nf - (intOf iv).toNat)
      case atStart => exact ⟨0, _, Nat.zero_le _, rfl, rfl, by unfold Hid; simp only [List.take_zero, List.append_nil]; exact HO.out, HX, HB⟩
      case round =>
        clear HO HX HB
        obtain ⟨j, sv, hj, rfl, rfl, HO, HX, HB⟩ := hrel
        replace HO := Lib.hid (show OwnT wr w.heap.size (insAll (flatI (l.take k) ++ f.ids.take j)) sv from HO.out)
        have l1 := HX.out.cell
        have z1 := HX.out.lt
        obtain ⟨c0, _⟩ := fc_cells (w := wr) (fun j z hz => (HB.out.cell (p := ⟨b, o + k * 9 + j, none⟩) hb0).trans (HR.out.cell k f HF.out j z hz))
        rw [HU.out] at c0
        have zb := Nat.lt_of_lt_of_le hb0 HB.out.size
        by_cases hjt : j < nf
        · obtain ⟨s, hs⟩ : ∃ s, f.ids[j]? = some s := ⟨_, List.getElem?_eq_getElem (by rw [HNF.out]; exact hjt)⟩
          obtain ⟨rfl, hb1⟩ := HT.out.at0 (by rw [HNF.out]; omega)
          have d0 := (HB.out.cell (p := ⟨bu, oo + j, none⟩) hb1).trans (HT.out.cell j s hs)
          have zu := Nat.lt_of_lt_of_le hb1 HB.out.size
          have hsub : ∀ x ∈ flatI (l.take k) ++ f.ids.take j, x ∈ flatI l := by
            intro x hx
            rcases List.mem_append.1 hx with hx | hx
            · exact flat_take_sub hx
            · unfold flatI; rw [List.mem_flatMap]; exact ⟨f, List.mem_of_getElem? HF.out, List.mem_of_mem_take hx⟩
          have hle : (insAll (flatI (l.take k) ++ f.ids.take j)).length ≤ 10000 := by
            have h1 := len_all (flatI (l.take k) ++ f.ids.take j)
            have h2 := flat_len (l := l) (k := k + 1)
            rw [flat_snoc HF.out] at h2
            have h3 := HFL.out
            simp only [List.length_append, List.length_take] at h1 h2
            omega
          have C := Lib.hid (insert_calls _ s sv wr (HO.out.tx fun x hx => HOK.out x (hsub x (mem_all.1 hx))) hle)
          have HS := Lib.hid (show insAll (flatI (l.take k) ++ f.ids.take (j + 1)) = insB (insAll (flatI (l.take k) ++ f.ids.take j)) s by rw [takeT hs, ← List.append_assoc, insAll_snoc])
          clear hs hsub hle
          go_wp2_with (go_at_call 48; refine C.out.mono ?_; rintro e w2 ⟨v2, rfl, ho2, hb2⟩)
          have HO2 := Lib.hid (ho2.mono (base' := w.heap.size) HB.out.size)
          have HX2 := Lib.hid (HX.out.below hb2 HX.out.lt)
          have HB2 := Lib.hid (HB.out.trans (hb2.mono HB.out.size))
          clear ho2 hb2
          go_roundw
          case rel => exact ⟨j + 1, _, by omega, by go_num, rfl, Lib.hid (by show OwnT _ _ (insAll (flatI (l.take k) ++ f.ids.take (j + 1))) _; rw [HS.out]; exact HO2.out), HX2, HB2⟩
          case measure => simp [intOf]; omega
        · have e : nf = j := by omega
          have h1 := HO.out
          rw [show f.ids.take j = f.ids from List.take_of_length_le (by rw [HNF.out]; omega), ← flat_snoc HF.out] at h1
          have HO := Lib.hid h1
          clear h1
          go_wp2_with fail
          go_roundw
          case rel => exact ⟨k + 1, _, by omega, by go_num, rfl, HO, HX, HB⟩
          case measure => simp [intOf]; omega
    · have e : len = k := by omega
      have h1 := HO.out
      rw [List.take_of_length_le (by rw [HN.out]; omega)] at h1
      have HO := Lib.hid h1
      clear h1
      go_wp2_with fail
      go_ret
      exact ⟨_, rfl, HO.out, HB.out⟩

end Go.Proofs.Ythhbjgecdhogoaa
