/- What is known, made plain: the code's own, walked. -/
import Derived.Test.YthhbjgecdhogoaaKPlS
import Derived.Test.YthhbjgecdhogoaaKeys
import Derived.Test.YthhbjgecdhogoaaKGreat
import Derived.Test.YthhbjgecdhogoaaKBey
namespace Go.Proofs.Ythhbjgecdhogoaa
set_option linter.unusedVariables false
set_option linter.unusedSimpArgs false
open Go.RowKit Go.Maps

theorem vecV_congr {A B : Nat → Int} (h : ∀ j, j < 8 → A j = B j) : vecV A = vecV B := by
  simp only [vecV, h 0 (by omega), h 1 (by omega), h 2 (by omega), h 3 (by omega), h 4 (by omega), h 5 (by omega), h 6 (by omega), h 7 (by omega)]
def KRel (F : ByteArray → Nat → Int) (ns : List ByteArray) (nn : Nat) (w0 : World) (base bm bp nc : Nat) (X Z : Array Value) (ids : List ByteArray) (raw : ByteArray → Nat → Int) (nv : Value) (lv iv : Value) (wr : World) : Prop :=
  ∃ (k : Nat) (U : Nat → Value), k ≤ nn ∧ iv = .int .i64 k ∧ Hid (KP w0 base bm bp nc X Z ids raw ns nv ((grpF F (ns.take k)).map (·.v)) (grpF F (ns.take k)) U lv wr)

set_option maxRecDepth 100000 in
set_option maxHeartbeats 8000000 in
theorem codePlain_calls (K : Kn) (v : Value) (w : World) (hR : FrW w K.l v) (hlen : (flatI K.l).length ≤ 10000) :
    Calls Try.prog 9 #[knV K.star v] w fun e w' => ∃ v', e = .returned (knV K.star v') ∧ FrFresh w' w.heap.size (plainB K).l v' ∧ Below w.heap.size w w' := by
  have hN := fun w' (hb : Below w.heap.size w w') => greatest_calls K.l v w' (hR.later hb (Nat.le_refl _)) hlen
  have HNL := Lib.hid (show (namesB K).length ≤ 10000 from Nat.le_trans (len_all _) hlen)
  have HOK : Hid (∀ s ∈ namesB K, s.size ≤ maxLen) := by
    obtain ⟨U, oa, cap, b, o, _, hr⟩ := hR
    exact fun s hs => fr_ok hr s (mem_all.1 hs)
  obtain ⟨ov, cv, rfl⟩ := hR.val
  have HP := Lib.hid (show (plainB K).l = grpF (beyB K) (namesB K) from rfl)
  have HBZ := Lib.hid (show ∀ id, vecV (bzV (rawF K.l id) K.star) = vecV (beyB K id) from fun id => vecV_congr fun j hj => by unfold bzV beyB; rw [if_pos hj])
  obtain ⟨A, l⟩ := K
  simp only at *
  generalize (plainB ⟨A, l⟩).l = res at *
  have hbx : Below w.heap.size w ((w.alloc (.cells (knA A (.slice ov l.length cv)) 26)).alloc (.cells (knA zeroV (.slice none 0 0)) 26)) :=
    ((Below.refl _ _).alloc (Nat.le_refl _) _).alloc (by simp) _
  have N := Lib.hid (hN _ hbx)
  have hrise := Lib.hid (rise_all (flatI l))
  have hmem := Lib.hid (fun s : ByteArray => (mem_all (l := flatI l) (x := s)).symm)
  have e : namesB ⟨A, l⟩ = insAll (flatI l) := rfl
  rw [e] at HP HNL HOK
  clear e
  generalize insAll (flatI l) = ns at *
  have I1 := Lib.hid (show Own _ _ _ _ ∧ Own _ _ _ _ ∧ Below _ _ _ from ⟨(Own.new w (knA A (.slice ov l.length cv)) 26).alloc (.cells (knA zeroV (.slice none 0 0)) 26), Own.newAt (w.alloc (.cells (knA A (.slice ov l.length cv)) 26)) (knA zeroV (.slice none 0 0)) 26 (b := w.heap.size + 1) (by simp), hbx⟩)
  have hsz2 : ((w.alloc (.cells (knA A (.slice ov l.length cv)) 26)).alloc (.cells (knA zeroV (.slice none 0 0)) 26)).heap.size = w.heap.size + 2 := by simp
  rw [hsz2] at N
  have HZ2 := Lib.hid hsz2
  clear hbx hN hsz2
  have hmm := @run_makeMap Try.prog
  go_enter Try.func9, Try.ntmps9
  go_wp2_with (first
    | (go_at_call 23; refine N.out.mono ?_; rintro e w3 ⟨rfl, hcnt, hb3⟩)
    | (go_at_call 25; have hc4 := Lib.hid (hcnt.later ((Below.refl w3.heap.size w3).alloc (Nat.le_refl _) (.map #[] 0))); refine (keysC (some (w.heap.size + 2)) (w3.alloc (.map #[] 0)) (w3.heap.size + 1) (by simp)).mono ?_; rintro e w4 ⟨rfl, rfl⟩)
    | (go_at_call 24; refine (sortedC hc4.out ns hrise.out hmem.out HNL.out (w3.heap.size + 1) (by simp)).mono ?_; rintro e w5 ⟨nv, rfl, hnv, hb5⟩; obtain ⟨on, cn, gn, rfl, hn1, hn2, hn3⟩ := row_slice hnv)
    | fail)
  have e4 : ((w3.alloc (.map #[] 0)).alloc (.cells #[.map (some (w.heap.size + 2))] 41)).heap.size = w3.heap.size + 1 + 1 := by simp
  have hb5' := hb5
  rw [← e4] at hb5'
  have hs3 := hcnt.lt
  have hs5 := hb5.size
  rw [e4] at hs5
  have S0 := Lib.hid (show KP w w5.heap.size (w.heap.size + 2) w3.heap.size _ (knA A (.slice ov l.length cv)) (knA zeroV (.slice none 0 0)) (flatI l) (rawF l) ns (.slice on ns.length cn) [] [] (fun _ => .slice none 0 0) (.slice none 0 0) w5 from
    ⟨((((I1.out.1.below hb3 (by omega)).alloc _).alloc _).later hb5'), ((((I1.out.2.1.below hb3 (by omega)).alloc _).alloc _).later hb5'), (hc4.out.later ((Below.refl _ _).alloc (Nat.le_refl _) _)).later hb5', ((Pcs.made w3).later ((Below.refl _ _).alloc (Nat.le_refl _) _)).later hb5', hnv.mono (by omega), fun b hb => (World.ownsRow.lt hnv b hb).2, PK.nil _ _ _,
      ((((I1.out.2.2.trans (hb3.mono (by omega))).alloc (by omega) _).alloc (by simp; omega) _).trans (hb5.mono (by omega))), by omega, ⟨by omega, by omega⟩, by omega, Nat.le_refl _⟩)
  have hcap := hn1
  have hmax := hn2
  unfold maxLen at hmax
  have HN3 := Lib.hid hn3
  clear hnv hb5 hb5' hb3 hcnt hc4 I1 N hn1 hn2 hn3 hR e4 hs3 hs5 HZ2 hmem hrise
  generalize w5.heap.size = base at *
  generalize w3.heap.size = bp at *
  generalize hF : beyB ⟨A, l⟩ = F at *
  generalize hbm : w.heap.size + 2 = bm at *
  generalize hnn : ns.length = nn at *
  have HNN := Lib.hid hnn
  clear hnn hF hbm
  go_wp2_with fail
  go_loopw [5, 19] (fun lv iv wr => KRel F ns nn w base bm bp (flatI l).length (knA A (.slice ov l.length cv)) (knA zeroV (.slice none 0 0)) (flatI l) (rawF l) (.slice on nn cn) lv iv wr) (fun _ iv _ => nn - (intOf iv).toNat)
  case atStart => exact ⟨0, _, Nat.zero_le _, rfl, by simpa [grpF] using S0⟩
  case round =>
    clear S0
    obtain ⟨k, U, hk, rfl, HS⟩ := hrel
    by_cases hlt : k < nn
    · obtain ⟨id, hid⟩ : ∃ id, ns[k]? = some id := ⟨_, List.getElem?_eq_getElem (by rw [HNN.out]; exact hlt)⟩
      obtain ⟨rfl, hgn⟩ := HN3.out (by omega)
      have c0 : wr.cell? ⟨gn, k, none⟩ = some (.string id) := by
        have h := HS.out.nm
        unfold OwnT at h
        rw [HNN.out] at h
        rw [h.cellAt k (by omega)]
        simp [txC, hid]
      have zg : gn < wr.heap.size := (World.ownsRow.lt HS.out.nm gn rfl).2
      have hsz := HOK.out id (List.mem_of_getElem? hid)
      have HG := Lib.hid (grp_take (F := F) hid)
      have HK := Lib.hid (Nat.le_trans (grp_len F (ns.take k) []) (show [].length + (ns.take k).length ≤ k by rw [List.length_take]; simp; omega))
      have HOL : (grpF F (ns.take k)).length ≤ k := HK.out
      have HIDL := Lib.hid (show ∀ f ∈ grpF F (ns.take k), f.ids.length ≤ 10000 from fun f hf => by
        have h1 := grp_idlen (F := F) (ns.take k) [] 0 (fun g hg => by simp at hg) f hf
        rw [List.length_take] at h1
        have := HNL.out; have := HNN.out
        omega)
      have HID := Lib.hid hid
      clear hid HK
      generalize grpF F (ns.take k) = o at *
      have hlk := HS.out.cnt.look hsz
      have l1 := HS.out.o1.cell
      have z1 := HS.out.o1.lt
      have CB : ∀ w', Hid (Calls Try.prog 26 #[vecV (rawF l id), vecV A] w' fun e w'' => e = .returned (vecV (F id)) ∧ Below w'.heap.size w' w'') := fun w' => Lib.hid (by rw [← HBZ.out id]; exact codeBeyond_calls (rawF l id) A w')
      have HSZ := Lib.hid hsz
      obtain ⟨oL, cL, gL, rfl, hL1, hL2, hL3⟩ := row_slice HS.out.pk.row
      have HL3 := Lib.hid hL3
      unfold maxLen at hL2
      generalize hno : o.length = no at *
      have HNO := Lib.hid hno
      clear hno hsz hL3
      go_upto_region 8 with (go_at_call 26; refine (CB _).out.mono ?_; rintro e w7 ⟨rfl, hb7⟩)
      have HV := Lib.hid (Own.new w7 (arr8 (F id)) 23)
      have HQ := Lib.hid ((HS.out.later hb7).alloc (.cells (arr8 (F id)) 23))
      have hbv := Lib.hid (Nat.le_trans HS.out.hw hb7.size)
      clear HS hlk l1 z1 CB c0 zg hb7
      generalize w7.heap.size = bv at *
      generalize w7.alloc (.cells (arr8 (F id)) 23) = wq at *
      have lv := HV.out.cell
      have zv := HV.out.lt
      have hz := fun w' => show (Op.equalIn 10000 23 (.agg #[.int .i64 (F id 0), .int .i64 (F id 1), .int .i64 (F id 2), .int .i64 (F id 3), .int .i64 (F id 4), .int .i64 (F id 5), .int .i64 (F id 6), .int .i64 (F id 7)]) (.agg #[.int .i64 0, .int .i64 0, .int .i64 0, .int .i64 0, .int .i64 0, .int .i64 0, .int .i64 0, .int .i64 0])).run Try.prog w' = .ok (eqV (F id) zeroV) w' from eqVec7 (F id) zeroV w'
      cases hzz : eqV (F id) zeroV
      · rw [hzz] at hz
        have HG2 := Lib.hid (show grpF F (ns.take (k + 1)) = putF (F id) id o by rw [HG.out]; unfold grpStep; rw [if_neg (by rw [hzz]; simp)])
        clear HG hzz
        go_upto_region 9 with fail
        go_cut [9, 10] (fun s9 s10 wx => ∃ (a : Int) (b : Bool), s9 = .int .i64 a ∧ s10 = .bool b ∧ Hid (wq = wx) ∧ Hid ((b = true ∧ ∃ (i : Nat) (f : Fr), a = i ∧ o[i]? = some f ∧ putF (F id) id o = o.set i ⟨f.ids ++ [id], f.v⟩) ∨ (b = false ∧ ∀ (j : Nat) (g : Fr), j < o.length → o[j]? = some g → eqV g.v (F id) = false)))
        case first =>
          rcases found_or (F id) o with ⟨a, f, hf, hn, he⟩ | hn
          · have hit := HQ.out.pcs.hit (grp_pcs_hit hf hn he).1 (grp_pcs_hit hf hn he).2
            have hit : (Instr.lookup 43 (.map (some bp)) (.agg #[.int .i64 (F id 0), .int .i64 (F id 1), .int .i64 (F id 2), .int .i64 (F id 3), .int .i64 (F id 4), .int .i64 (F id 5), .int .i64 (F id 6), .int .i64 (F id 7)]) true).run Try.prog wq = .ok (.tuple #[.int .i64 a, .bool true]) wq := hit
            have HPE := Lib.hid (put_at (id := id) hf hn he)
            have HF := Lib.hid hf
            clear hf hn he hz
            go_wp2_with fail
            go_meet
            exact ⟨a, true, rfl, rfl, Lib.hid rfl, Lib.hid (.inl ⟨rfl, a, f, rfl, HF.out, HPE.out⟩)⟩
          · have miss := HQ.out.pcs.miss (grp_pcs_miss hn)
            have miss : (Instr.lookup 43 (.map (some bp)) (.agg #[.int .i64 (F id 0), .int .i64 (F id 1), .int .i64 (F id 2), .int .i64 (F id 3), .int .i64 (F id 4), .int .i64 (F id 5), .int .i64 (F id 6), .int .i64 (F id 7)]) true).run Try.prog wq = .ok (.tuple #[.int .i64 0, .bool false]) wq := miss
            have HN0 := Lib.hid hn
            clear hn hz
            go_wp2_with fail
            go_meet
            exact ⟨0, false, rfl, rfl, Lib.hid rfl, Lib.hid (.inr ⟨rfl, HN0.out⟩)⟩
        case rest =>
          obtain ⟨ai, bi, rfl, rfl, hwx, HB⟩ := hcut
          have ewx := hwx.out
          subst ewx
          clear hwx
          go_upto_if 39 with fail
          go_cut [5, 9] (fun s5 s9 wx => ∃ (a no' gL' cL' : Nat), s5 = .slice (some ⟨gL', 0, none⟩) no' cL' ∧ s9 = .int .i64 a ∧ Hid (∃ (o' : List Fr) (U' : Nat → Value) (f : Fr), o'.length = no' ∧ KP w base bm bp (flatI l).length (knA A (.slice ov l.length cv)) (knA zeroV (.slice none 0 0)) (flatI l) (rawF l) ns (.slice (some ⟨gn, 0, none⟩) nn cn) (o'.map (·.v)) o' U' (.slice (some ⟨gL', 0, none⟩) no' cL') wx ∧ o'[a]? = some f ∧ f.ids.length ≤ 10000 ∧ putF (F id) id o = o'.set a ⟨f.ids ++ [id], f.v⟩))
          case first =>
            rcases HB.out with ⟨rfl, a, f, rfl, hf, hpe⟩ | ⟨rfl, hn⟩
            · have HPE := Lib.hid hpe
              have HF := Lib.hid hf
              have hlt2 : a < no := by have := posA hf; rw [HNO.out] at this; exact this
              obtain ⟨rfl, hgL⟩ := HL3.out (by omega)
              clear hf hpe hz
              go_wp2_with fail
              go_meet
              exact ⟨a, no, gL, cL, rfl, rfl, Lib.hid ⟨o, U, f, HNO.out, HQ.out, HF.out, HIDL.out f (List.mem_of_getElem? HF.out), HPE.out⟩⟩
            · have HPE := Lib.hid (put_new (v := F id) (id := id) (o := o) hn)
              obtain ⟨w8, hput, hp8, hg8⟩ := HQ.out.pcs.put (grp_pcs_miss hn)
              rw [List.length_map, HNO.out] at hput
              have hput : (Instr.mapUpdate 43 (.map (some bp)) (.agg #[.int .i64 (F id 0), .int .i64 (F id 1), .int .i64 (F id 2), .int .i64 (F id 3), .int .i64 (F id 4), .int .i64 (F id 5), .int .i64 (F id 6), .int .i64 (F id 7)]) (.int .i64 (no : Int))).run Try.prog wq = .ok () w8 := hput
              have H8 := Lib.hid (HQ.out.put hp8 hg8)
              have V8 := HV.out.grown hg8 (by simp only [ne_eq, Option.some.injEq]; have := HQ.out.hp; have := hbv.out; omega)
              have lv8 := V8.cell
              have zv8 := V8.lt
              clear hn hz hp8 hg8 V8
              have HSA := Lib.hid (H8.out.alloc (.cells #[.slice none 0 0, .int .i64 (F id 0), .int .i64 (F id 1), .int .i64 (F id 2), .int .i64 (F id 3), .int .i64 (F id 4), .int .i64 (F id 5), .int .i64 (F id 6), .int .i64 (F id 7)] 40))
              have hown : (w8.alloc (.cells #[.slice none 0 0, .int .i64 (F id 0), .int .i64 (F id 1), .int .i64 (F id 2), .int .i64 (F id 3), .int .i64 (F id 4), .int .i64 (F id 5), .int .i64 (F id 6), .int .i64 (F id 7)] 40)).ownsRow base 40 9 (.slice oL no cL) no (frCs U 0 o) := by
                have h := HSA.out.pk.row
                rw [HNO.out] at h
                exact h
              obtain ⟨j0, hj, hy0, hy1, hy2⟩ := info_parts info_frag
              have hnl := HNL.out
              have hnn2 := HNN.out
              have t1 : base ≤ (w8.alloc (.cells #[.slice none 0 0, .int .i64 (F id 0), .int .i64 (F id 1), .int .i64 (F id 2), .int .i64 (F id 3), .int .i64 (F id 4), .int .i64 (F id 5), .int .i64 (F id 6), .int .i64 (F id 7)] 40)).heap.size := by have := H8.out.hw; simp; omega
              have t2 : (w8.alloc (.cells #[.slice none 0 0, .int .i64 (F id 0), .int .i64 (F id 1), .int .i64 (F id 2), .int .i64 (F id 3), .int .i64 (F id 4), .int .i64 (F id 5), .int .i64 (F id 6), .int .i64 (F id 7)] 40)).heap.size = w8.heap.size + 1 := by simp
              have t3 : no + 1 ≤ maxLen := by unfold maxLen; omega
              have t4 : (no + 1) * 88 ≤ 140737488355328 := by omega
              clear hnn2
              go_upto_region 13 with fail
              go_wp2_with (at_builtin; refine wpList_append_lies _ (by rfl) _ _ _ (by rfl) base 40 j0 _ 9 88 Try.underlying24 hj hy0 hy1 hy2 rfl (by omega) (.slice oL no cL) no (frCs U 0 o) (by rfl) hown ⟨w8.heap.size, 0, none⟩ 1 1 (fc ⟨[], F id⟩ (.slice none 0 0)) (by rfl) (by rfl) newsF (oneF _ rfl) (by omega) t3 t4 t1 (w8.heap.size + 1) t2 ?_; intro g cap' w9 hown9 hgrow hat9 hlt9; have R := HSA.out.addF (F id) (by rw [HNO.out]) hown9 hgrow)
              go_meet
              exact ⟨no, no + 1, g, cap', rfl, rfl, Lib.hid ⟨o ++ [(⟨[], F id⟩ : Fr)], _, ⟨[], F id⟩, by simp [HNO.out], by rw [List.map_append]; exact R, by rw [← HNO.out]; simp, by simp, by rw [HPE.out, HNO.out]⟩⟩
          case rest =>
            clear HB HQ HV hbv hz lv zv HL3 hL1 hL2 HIDL HNO
            obtain ⟨a, no', gL', cL', rfl, rfl, HC⟩ := hcut
            obtain ⟨o', U', f, hno', hs, hf, hil, hpe⟩ := HC.out
            clear HC
            generalize wc = wq at *
            have HQ := Lib.hid hs
            have HF := Lib.hid hf
            have HGK := Lib.hid (show grpF F (ns.take (k + 1)) = o'.set a ⟨f.ids ++ [id], f.v⟩ by rw [HG2.out, hpe])
            have hlt3 : a < no' := by have := posA hf; omega
            have HNO := Lib.hid hno'
            clear hs hf hpe HG2 hno'
            have hUT := HQ.out.pk.ids a f HF.out
            obtain ⟨oU, cU, gU, hUa, hU1, hU2, hU3⟩ := row_slice hUT
            obtain ⟨d0, _⟩ := fc_cells (w := wq) (o := a * 9) (HQ.out.pk.at HF.out)
            rw [hUa] at d0
            have hown : (wq.alloc (.cells #[.string id] 9)).ownsRow base 9 1 (.slice oU f.ids.length cU) f.ids.length (txC f.ids) := by
              have h := OwnT.alloc hUT (.cells #[.string id] 9)
              rw [hUa] at h
              exact h
            have HUA := Lib.hid hUa
            have zL7 : gL' < wq.heap.size := (World.ownsRow.lt HQ.out.pk.row gL' rfl).2
            have hidl : (f.ids.length + 1) * 16 ≤ 140737488355328 := by omega
            obtain ⟨i0, hi, hz0, hz1, hz2⟩ := info_parts info_text
            have HSA := Lib.hid (HQ.out.alloc (.cells #[.string id] 9))
            have t1 : base ≤ (wq.alloc (.cells #[.string id] 9)).heap.size := by have := HQ.out.hw; simp; omega
            have t2 : (wq.alloc (.cells #[.string id] 9)).heap.size = wq.heap.size + 1 := by simp
            have t3 : f.ids.length + 1 ≤ maxLen := by unfold maxLen; omega
            have hsl : no' ≤ cL' := by
              obtain ⟨oq, cq, gq, eq, h1, _⟩ := row_slice HQ.out.pk.row
              rw [HNO.out] at eq h1
              cases eq; exact h1
            clear hUa hUT hU1 hU2 hU3 HQ hil
            go_wp2_with (at_builtin; refine wpList_append_lies _ (by rfl) _ _ _ (by rfl) base 9 i0 _ 1 16 Try.underlying38 hi hz0 hz1 hz2 rfl (by omega) (.slice oU f.ids.length cU) f.ids.length (txC f.ids) (by rfl) hown ⟨wq.heap.size, 0, none⟩ 1 1 [.string id] (by rfl) (by rfl) (newsT (w := wq)) (oneT id) (by omega) t3 hidl t1 (wq.heap.size + 1) t2 ?_; intro g cap' w3 hown3 hgrow hat3 hlt3; have R := Lib.hid (HSA.out.addT HF.out id rfl hown3 (by rw [HUA.out]; exact hgrow) (by rw [HUA.out]; simpa using hat3)); have rw3 := World.ownsRow.kept HSA.out.pk.row hgrow (by rw [← HUA.out]; exact row_apart HSA.out.pk.row (HSA.out.pk.ids a f HF.out) (fun e => ft_ne e.symm)); have cw3 := fr_cell rw3 HF.out; have fw3 := row_free rw3 (a * 9); clear rw3 hown3 hgrow hat3)
            go_roundw
            case rel => exact ⟨k + 1, _, by omega, by go_num, Lib.hid (by rw [HGK.out, map_set_v (f' := ⟨f.ids ++ [id], f.v⟩) HF.out rfl]; exact R.out)⟩
            case measure => simp [intOf]; omega
      · rw [hzz] at hz
        have HG2 := Lib.hid (show grpF F (ns.take (k + 1)) = o by rw [HG.out]; unfold grpStep; rw [if_pos hzz])
        clear HG hzz
        have HQ2 := Lib.hid (show KP w base bm bp (flatI l).length (knA A (.slice ov l.length cv)) (knA zeroV (.slice none 0 0)) (flatI l) (rawF l) ns (.slice (some ⟨gn, 0, none⟩) nn cn) ((grpF F (ns.take (k + 1))).map (·.v)) (grpF F (ns.take (k + 1))) U (.slice oL no cL) wq by rw [HG2.out]; exact HQ.out)
        go_wp2_with fail
        go_roundw
        case rel => exact ⟨k + 1, U, by omega, by go_num, HQ2⟩
        case measure => simp [intOf]; omega
    · have e : nn = k := by omega
      subst e
      have h1 := HS.out
      rw [show ns.take nn = ns from List.take_of_length_le (by rw [HNN.out]; omega)] at h1
      have hfr := kp9 h1 (fun f hf s hs => HOK.out s (by
        rcases grp_ids (F := F) ns [] ⟨f, hf, hs⟩ with h | ⟨g, hg, _⟩
        · exact h
        · simp at hg))
      rw [← HP.out] at hfr
      obtain ⟨oL, cL, gL, rfl, hL1, hL2, hL3⟩ := row_slice h1.pk.row
      have l1 := h1.o1.cell
      have z1 := h1.o1.lt
      have l2 := h1.o2.cell
      have f2 := h1.o2.free
      have z2 := h1.o2.lt
      have key := And.intro (st9_own h1.o2 (.int .i64 (A 0)) (.int .i64 (A 1)) (.int .i64 (A 2)) (.int .i64 (A 3)) (.int .i64 (A 4)) (.int .i64 (A 5)) (.int .i64 (A 6)) (.int .i64 (A 7)) (.slice oL (grpF F ns).length cL)) (And.intro (st9_below (b := w.heap.size + 1) h1.bel (by omega) (.int .i64 (A 0)) (.int .i64 (A 1)) (.int .i64 (A 2)) (.int .i64 (A 3)) (.int .i64 (A 4)) (.int .i64 (A 5)) (.int .i64 (A 6)) (.int .i64 (A 7)) (.slice oL (grpF F ns).length cL)) (hfr (.int .i64 (A 0)) (.int .i64 (A 1)) (.int .i64 (A 2)) (.int .i64 (A 3)) (.int .i64 (A 4)) (.int .i64 (A 5)) (.int .i64 (A 6)) (.int .i64 (A 7)) (.slice oL (grpF F ns).length cL)))
      have KEY := Lib.hid key
      clear key hfr h1 hL1 hL2 hL3 HS HP
      generalize (grpF F ns).length = nr at *
      go_wp2_with fail
      clear l2 f2 z2 l1 z1
      have key := KEY.out
      unfold st9 st8 at key
      revert key
      generalize World.setCell (World.setCell (World.setCell (World.setCell (World.setCell (World.setCell (World.setCell (World.setCell (World.setCell _ _ _) _ _) _ _) _ _) _ _) _ _) _ _) _ _) _ _ = WW
      rintro ⟨of, bf, ff⟩
      have lf := of.cell
      refine bodyPost_ret (v := knV A (.slice oL nr cL)) (by simp [results, Try.results9, go_sem, lf]) rfl ⟨_, rfl, ff, bf⟩


end Go.Proofs.Ythhbjgecdhogoaa
