/- Of each Id the greatest counts: the code's own, walked. -/
import Derived.Test.YthhbjgecdhogoaaKMap
import Derived.Test.YthhbjgecdhogoaaVecMax
import Derived.Test.YthhbjgecdhogoaaPlSt
namespace Go.Proofs.Ythhbjgecdhogoaa
set_option linter.unusedVariables false
set_option linter.unusedSimpArgs false
open Go.RowKit Go.Maps

/-- Behind the first j Ids of a piece. -/
def rawJ (l : List Fr) (f : Fr) (j : Nat) (s : ByteArray) : Nat → Int := if amongB (f.ids.take j) s = true then maxV (rawF l s) f.v else rawF l s
theorem rawJ_zero (l : List Fr) (f : Fr) : rawJ l f 0 = rawF l := by
  funext s; simp [rawJ, amongB]
theorem rawJ_all (l : List Fr) {f : Fr} {k : Nat} (hf : l[k]? = some f) : rawJ (l.take k) f f.ids.length = rawF (l.take (k + 1)) := by
  funext s
  rw [takeT hf]
  simp [rawJ, rawF, List.foldl_append, rawStep]
theorem max_again (A B : Nat → Int) : maxV (maxV A B) B = maxV A B := funext fun j => max_more A B j
theorem rawJ_step (l : List Fr) (f : Fr) {j : Nat} {s : ByteArray} (hs : f.ids[j]? = some s) : (fun x => if x = s then maxV (rawJ l f j s) f.v else rawJ l f j x) = rawJ l f (j + 1) := by
  funext x
  unfold rawJ
  rw [takeT hs]
  by_cases e : x = s
  · subst e
    have h1 : amongB (f.ids.take j ++ [x]) x = true := among_iff.2 (by simp)
    rw [if_pos rfl, h1, if_pos rfl]
    split
    · exact max_again _ _
    · rfl
  · rw [if_neg e]
    have h1 : amongB (f.ids.take j ++ [s]) x = amongB (f.ids.take j) x := by
      cases h : amongB (f.ids.take j) x with
      | true => exact among_iff.2 (by simp [among_iff.1 h])
      | false =>
        cases h' : amongB (f.ids.take j ++ [s]) x with
        | false => rfl
        | true =>
          have := among_iff.1 h'
          simp [e] at this
          rw [among_iff.2 this] at h; cases h
    rw [h1]
theorem gflat_take {l : List Fr} {k : Nat} {f : Fr} (hf : l[k]? = some f) : flatI (l.take (k + 1)) = flatI (l.take k) ++ f.ids := by
  rw [takeT hf]; simp [flatI]
theorem gflat_len {l : List Fr} {k : Nat} : (flatI (l.take k)).length ≤ (flatI l).length := by
  unfold flatI
  conv => rhs; rw [← List.take_append_drop k l]
  rw [List.flatMap_append, List.length_append]; omega

def GrRel (l : List Fr) (n : Nat) (w0 : World) (i : Value) (wr : World) : Prop :=
  ∃ k : Nat, k ≤ n ∧ i = .int .i64 k ∧ Hid (Cnt wr w0.heap.size (flatI (l.take k)).length (flatI (l.take k)) (rawF (l.take k))) ∧ Hid (Below w0.heap.size w0 wr)
def GjRel (lk : List Fr) (f : Fr) (n : Nat) (w0 : World) (X : Array Value) (bf : Nat) (i : Value) (wr : World) : Prop :=
  ∃ j : Nat, j ≤ n ∧ i = .int .i64 j ∧ Hid (Cnt wr w0.heap.size ((flatI lk).length + j) (flatI lk ++ f.ids.take j) (rawJ lk f j)) ∧ Hid (Own wr bf X 40) ∧ Hid (Below w0.heap.size w0 wr)

set_option maxRecDepth 100000 in
set_option maxHeartbeats 4000000 in
theorem greatest_calls (l : List Fr) (v : Value) (w : World) (hR : FrW w l v) (hlen : (flatI l).length ≤ 10000) :
    Calls Try.prog 23 #[v] w fun e w' => e = .returned (.map (some w.heap.size)) ∧ Cnt w' w.heap.size (flatI l).length (flatI l) (rawF l) ∧ Below w.heap.size w w' := by
  obtain ⟨U, oa, cap, bl, o, rfl, hF⟩ := hR
  have hc1 := hF.len
  have hc2 := hF.max
  unfold maxLen at hc2
  have HF := Lib.hid hF
  clear hF
  have hmm := @run_makeMap Try.prog
  have I0 : GrRel l l.length w (.int .i64 0) (w.alloc (.map #[] 0)) := ⟨0, Nat.zero_le _, rfl, by rw [List.take_zero]; exact Lib.hid (Cnt.made w), Lib.hid ((Below.refl _ _).alloc (Nat.le_refl _) _)⟩
  have HI := Lib.hid I0
  clear I0
  generalize hn : l.length = n at *
  have HN := Lib.hid hn
  clear hn
  go_enter Try.func23, Try.ntmps23
  go_wp2_with fail
  go_loopw [11] (fun i wr => GrRel l n w i wr) (fun i _ => n - (intOf i).toNat)
  case atStart => exact HI.out
  case round =>
    clear HI
    obtain ⟨k, hk, rfl, HC, HB⟩ := hrel
    by_cases hlt : k < n
    · obtain ⟨f, hf⟩ : ∃ f, l[k]? = some f := ⟨_, List.getElem?_eq_getElem (by rw [HN.out]; exact hlt)⟩
      have hat := HF.out.at0 (by rw [HN.out]; omega)
      obtain ⟨rfl, hbl⟩ := hat
      have FL := HF.out.later HB.out (Nat.le_refl _)
      obtain ⟨c0, c1, c2, c3, c4, c5, c6, c7, c8⟩ := fc_cells (w := wr) (fun j u hu => FL.cell k f hf j u hu)
      have zl : bl < wr.heap.size := Nat.lt_of_lt_of_le hbl HB.out.size
      obtain ⟨ob, cb, b', o', hU, hT⟩ := HF.out.ids k f hf
      have ht1 := hT.len
      have ht2 := hT.max
      unfold maxLen at ht2
      have HT := Lib.hid hT
      have HL := Lib.hid (show (flatI (l.take k)).length + f.ids.length ≤ 10000 by
        have h1 := gflat_len (l := l) (k := k + 1)
        rw [gflat_take hf, List.length_append] at h1
        omega)
      have HJ0 := Lib.hid (rawJ_zero (l.take k) f)
      have HJ1 := Lib.hid (rawJ_all l hf)
      have HJ2 := Lib.hid (gflat_take hf)
      rw [hU] at c0
      clear FL hT hf
      generalize hk1 : l.take (k + 1) = lk1 at *
      have HK1 := Lib.hid hk1
      have hkn := Lib.hid hlt
      clear hk1
      generalize l.take k = lk at *
      have CA := HC.out.later ((Below.refl _ wr).alloc (Nat.le_refl _) (.cells #[.slice ob f.ids.length cb, .int .i64 (f.v 0), .int .i64 (f.v 1), .int .i64 (f.v 2), .int .i64 (f.v 3), .int .i64 (f.v 4), .int .i64 (f.v 5), .int .i64 (f.v 6), .int .i64 (f.v 7)] 40))
      have J0 : GjRel lk f f.ids.length w #[.slice ob f.ids.length cb, .int .i64 (f.v 0), .int .i64 (f.v 1), .int .i64 (f.v 2), .int .i64 (f.v 3), .int .i64 (f.v 4), .int .i64 (f.v 5), .int .i64 (f.v 6), .int .i64 (f.v 7)] wr.heap.size (.int .i64 0) (wr.alloc (.cells #[.slice ob f.ids.length cb, .int .i64 (f.v 0), .int .i64 (f.v 1), .int .i64 (f.v 2), .int .i64 (f.v 3), .int .i64 (f.v 4), .int .i64 (f.v 5), .int .i64 (f.v 6), .int .i64 (f.v 7)] 40)) :=
        ⟨0, Nat.zero_le _, rfl, by rw [HJ0.out, List.take_zero, List.append_nil]; exact Lib.hid CA, Lib.hid (Own.new _ _ _), Lib.hid (HB.out.alloc HB.out.size _)⟩
      have HJ := Lib.hid J0
      have HC0 := HC.out.lt
      clear J0 CA HC HJ0
      have hbf : w.heap.size < wr.heap.size := HC0
      generalize hm : f.ids.length = m at *
      have HM := Lib.hid hm
      clear hm
      go_upto_block 2 with fail
      clear c0 c1 c2 c3 c4 c5 c6 c7 c8 hlt zl hbl
      generalize wr.heap.size = bf at *
      go_wp2_with fail
      go_loopw [18] (fun i wr => GjRel lk f m w #[.slice ob m cb, .int .i64 (f.v 0), .int .i64 (f.v 1), .int .i64 (f.v 2), .int .i64 (f.v 3), .int .i64 (f.v 4), .int .i64 (f.v 5), .int .i64 (f.v 6), .int .i64 (f.v 7)] bf i wr) (fun i _ => m - (intOf i).toNat)
      case atStart => exact HJ.out
      case round =>
        clear HJ HB
        obtain ⟨j, hj, rfl, HC, HO, HB⟩ := hrel
        by_cases hlt : j < m
        · obtain ⟨s, hs⟩ : ∃ s, f.ids[j]? = some s := ⟨_, List.getElem?_eq_getElem (by rw [HM.out]; exact hlt)⟩
          obtain ⟨rfl, hbt⟩ := HT.out.at0 (by rw [HM.out]; omega)
          have cs := (HT.out.later HB.out (Nat.le_refl _)).cell j s hs
          have zt : b' < wr.heap.size := Nat.lt_of_lt_of_le hbt HB.out.size
          have hsz := HT.out.ok s (List.mem_of_getElem? hs)
          have hlk := HC.out.look hsz
          have lo := HO.out.cell
          have zo := HO.out.lt
          have HS := Lib.hid (rawJ_step lk f hs)
          have HT2 := Lib.hid (takeT hs)
          have hnn : (flatI lk).length + j < maxLen := by have := HL.out; unfold maxLen; omega
          have CM := fun w' => Lib.hid (vecMax_calls (rawJ lk f j s) f.v w')
          have PUT := fun w' (h3 : Below wr.heap.size wr w') => (HC.out.later h3).put hsz hnn (maxV (rawJ lk f j s) f.v)
          have PP := Lib.hid PUT
          have HZ := Lib.hid hsz
          clear hs hsz hbt PUT
          go_wp2_with (go_at_call 43; refine (CM _).out.mono ?_; rintro e w3 ⟨rfl, hb3⟩; obtain ⟨w4, hput, hc4, hg4⟩ := PP.out w3 hb3)
          have B4 := Lib.hid ((HB.out.trans (hb3.mono HB.out.size)).grown hg4 (by have := hb3.size; have := HB.out.size; omega) (fun q hq => by cases hq; exact Nat.le_refl _))
          have O4 := Lib.hid ((HO.out.later hb3).grown hg4 (by simp; omega))
          go_roundw
          case rel => exact ⟨j + 1, by omega, by go_num, by rw [HT2.out, ← HS.out, ← List.append_assoc]; exact Lib.hid hc4, O4, B4⟩
          case measure => simp [intOf]; omega
        · have e : j = m := by omega
          subst e
          have HC2 := Lib.hid (show Cnt wr w.heap.size (flatI lk1).length (flatI lk1) (rawF lk1) by
            have h := HC.out
            rw [HJ1.out, ← HM.out, List.take_length, ← List.length_append, ← HJ2.out] at h
            exact h)
          have hkn' := hkn.out
          go_wp2_with fail
          go_roundw
          case rel => exact ⟨k + 1, by omega, by go_num, by rw [HK1.out]; exact HC2, HB⟩
          case measure => simp [intOf]; omega
    · have e : k = n := by omega
      have h := HC.out
      rw [List.take_of_length_le (by rw [HN.out]; omega)] at h
      have H7 := Lib.hid h
      clear h e
      go_wp2_with fail
      go_ret
      exact ⟨rfl, H7.out, HB.out⟩

end Go.Proofs.Ythhbjgecdhogoaa
