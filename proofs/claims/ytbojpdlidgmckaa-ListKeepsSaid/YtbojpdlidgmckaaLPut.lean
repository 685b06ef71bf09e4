/- The code's list.Put, Drop. Walked. -/
import Derived.Test.YtbojpdlidgmckaaLMay
import Derived.Test.YtbojpdlidgmckaaLConc
import Derived.Test.YtbojpdlidgmckaaListKM
import Derived.Deep.RegionLaw
import Derived.Deep.RegionHeld3
namespace Go.Proofs.Ytbojpdlidgmckaa
set_option linter.unusedVariables false
set_option linter.unusedSimpArgs false
open Go.RowKit

theorem to_le (l : List Itm) (id : ByteArray) : toI l id ≤ l.length := by
  have hk := pos_le l id
  unfold toI
  cases hh : hitI l id with
  | false => simpa using hk
  | true =>
    unfold hitI at hh
    cases e : l[posI l id]? with
    | none => rw [e] at hh; cases hh
    | some i => have := some_posI e; simp only [if_true]; omega

theorem add_none (b o n : Nat) : (⟨b, o, none⟩ : Addr).add n = ⟨b, o + n, none⟩ := by
  unfold Addr.add; split <;> simp_all
theorem Row.slice {w : World} {l : List Itm} {oa : Option Addr} {n cap : Nat} (h : Row 8 ic w l (.slice oa n cap)) (t : Nat) (ht : t ≤ l.length) : Row 8 ic w (l.drop t) (.slice (Option.map (fun x => x.add (t * 8)) oa) (n - t) (cap - t)) := by
  obtain ⟨oa', cap', b, o, e, h⟩ := h
  cases e
  have hc := h.len
  have hm := h.max
  refine ⟨_, cap - t, b, o + t * 8, by rw [List.length_drop], by rw [List.length_drop]; omega, by omega, fun h0 => ?_, fun k i hk j u hu => ?_, fun i hi => h.ok i (List.mem_of_mem_drop hi)⟩
  · rw [List.length_drop] at h0
    obtain ⟨rfl, hb⟩ := h.at0 (by omega)
    exact ⟨by simp only [Option.map_some, add_none], hb⟩
  · rw [List.getElem?_drop] at hk
    have := h.cell (t + k) i hk j u hu
    rw [show o + t * 8 + k * 8 + j = o + (t + k) * 8 + j by omega]
    exact this
theorem Row.none {w : World} {l : List Itm} {oa : Option Addr} {n cap : Nat} (h : Row 8 ic w l (.slice oa n cap)) : Row 8 ic w (l.drop cap) (.slice oa 0 0) := by
  obtain ⟨oa', cap', b, o, e, h⟩ := h
  cases e
  have hc := h.len
  have e : l.drop cap = [] := List.drop_eq_nil_of_le hc
  rw [e]
  exact ⟨_, 0, b, o, rfl, Nat.le_refl _, by decide, fun h0 => by simp at h0, fun k i hk => by simp at hk, fun i hi => by simp at hi⟩
theorem Row.upto {w : World} {l : List Itm} {oa : Option Addr} {n cap : Nat} (h : Row 8 ic w l (.slice oa n cap)) (k : Nat) (hk : k ≤ l.length) : Row 8 ic w (l.take k) (.slice oa k cap) := by
  have e := h.take k
  rw [List.length_take, show min k l.length = k by omega] at e
  exact e
theorem concat2_calls (a b : List Itm) (va vb : Value) (bs : Nat) (w : World) (hlt : bs < w.heap.size) (c0 : w.cell? ⟨bs, 0, none⟩ = some va) (c1 : w.cell? ⟨bs, 1, none⟩ = some vb) (ha : Row 8 ic w a va) (hb : Row 8 ic w b vb) (la : a.length ≤ 2000) (lb : b.length ≤ 2000) :
    Calls Try.prog 27 #[.slice (some ⟨bs, 0, none⟩) 2 2] w fun e w' => ∃ v, e = .returned v ∧ OwnI w' w.heap.size (a ++ b) v ∧ Below w.heap.size w w' := by
  have h := concatI_walk 2 (by omega) (fun k => if k = 0 then a else b) (fun k => if k = 0 then va else vb) bs w ⟨hlt, fun k hk => ?_, fun k hk => ?_, fun k hk => ?_⟩
  · simpa [catI] using h
  · obtain rfl | rfl : k = 0 ∨ k = 1 := by omega
    · simpa using c0
    · simpa using c1
  · obtain rfl | rfl : k = 0 ∨ k = 1 := by omega
    · simpa using ha
    · simpa using hb
  · obtain rfl | rfl : k = 0 ∨ k = 1 := by omega
    · simpa using la
    · simpa using lb
theorem concat3_calls (a b c : List Itm) (va vb vc : Value) (bs : Nat) (w : World) (hlt : bs < w.heap.size) (c0 : w.cell? ⟨bs, 0, none⟩ = some va) (c1 : w.cell? ⟨bs, 1, none⟩ = some vb) (c2 : w.cell? ⟨bs, 2, none⟩ = some vc) (ha : Row 8 ic w a va) (hb : Row 8 ic w b vb) (hc : Row 8 ic w c vc) (la : a.length ≤ 2000) (lb : b.length ≤ 2000) (lc : c.length ≤ 2000) :
    Calls Try.prog 27 #[.slice (some ⟨bs, 0, none⟩) 3 3] w fun e w' => ∃ v, e = .returned v ∧ OwnI w' w.heap.size (a ++ (b ++ c)) v ∧ Below w.heap.size w w' := by
  have h := concatI_walk 3 (by omega) (fun k => if k = 0 then a else if k = 1 then b else c) (fun k => if k = 0 then va else if k = 1 then vb else vc) bs w ⟨hlt, fun k hk => ?_, fun k hk => ?_, fun k hk => ?_⟩
  · simpa [catI] using h
  · obtain rfl | rfl | rfl : k = 0 ∨ k = 1 ∨ k = 2 := by omega
    · simpa using c0
    · simpa using c1
    · simpa using c2
  · obtain rfl | rfl | rfl : k = 0 ∨ k = 1 ∨ k = 2 := by omega
    · simpa using ha
    · simpa using hb
    · simpa using hc
  · obtain rfl | rfl | rfl : k = 0 ∨ k = 1 ∨ k = 2 := by omega
    · simpa using la
    · simpa using lb
    · simpa using lc
theorem oks_sub {l m : List Itm} (h : ∀ i ∈ l, i.id.size ≤ maxLen ∧ i.kd.size ≤ maxLen) (hs : ∀ i ∈ m, i ∈ l) : ∀ i ∈ m, i.id.size ≤ maxLen ∧ i.kd.size ≤ maxLen := fun i hi => h i (hs i hi)

set_option maxRecDepth 100000 in
set_option maxHeartbeats 4000000 in
theorem listDrop_calls (l : List Itm) (id : ByteArray) (v : Value) (w : World) (hR : Row 8 ic w l v) (hr : RiseI l) (hl : l.length ≤ 1000) (hid : id.size ≤ maxLen) :
    Calls Try.prog 18 #[v, .string id] w fun e w' => ∃ v', e = .returned v' ∧ Row 8 ic w' (l.filter (neB id)) v' ∧ Below w.heap.size w w' := by
  have S := Lib.hid (span_calls l id v w hR hr (by omega))
  have HO := Lib.hid (oks_sub (m := l.filter (neB id)) hR.oks fun i hi => (List.mem_filter.1 hi).1)
  have E := Lib.hid (dropI_span (id := id) hr)
  have LR := Lib.hid hR
  obtain ⟨oa, cap, rfl⟩ := hR.val
  have kx := hR.cap
  have hk := pos_le l id
  have ht := to_le l id
  clear hR hr
  generalize toI l id = t at *
  generalize posI l id = k at *
  have q1 : (0 : Int) ≤ (k : Int) := by omega
  have q2 : (k : Int) ≤ (cap : Int) := by omega
  have q3 : (0 : Int) ≤ (t : Int) := by omega
  have q4 : (t : Int) ≤ (l.length : Int) := by omega
  go_enter Try.func18, Try.ntmps18
  go_upto_region 2 with (go_at_call 25; refine S.out.mono ?_; rintro e w1 ⟨rfl, hb⟩; replace LR := Lib.hid (LR.out.later hb))
  have W2 : ∀ x y : Value, Hid (Row 8 ic w1 (l.take k) x → Row 8 ic w1 (l.drop t) y → Calls Try.prog 27 #[.slice (some ⟨w1.heap.size, 0, none⟩) 2 2] (w1.alloc (.cells #[x, y] 28)).drew fun e w' => ∃ v, e = .returned v ∧ OwnI w' (w1.heap.size + 1) (l.filter (neB id)) v ∧ Below w1.heap.size w1 w') := fun x y => Lib.hid (fun hx hy => by
    have h := concat2_calls (l.take k) (l.drop t) x y w1.heap.size (w1.alloc (.cells #[x, y] 28)).drew (by simp) ((Has.new w1 #[x, y] 28).cell 0) ((Has.new w1 #[x, y] 28).cell 1) (hx.alloc _).drew (hy.alloc _).drew (by rw [List.length_take]; omega) (by rw [List.length_drop]; omega)
    rw [E.out] at h
    refine h.mono ?_
    rintro e w' ⟨v, he, ho, hb⟩
    exact ⟨v, he, by simpa using ho, (((Below.refl _ _).alloc (Nat.le_refl _) _).drew).trans (hb.mono (by simp))⟩)
  refine region_still_tail 6 (by kernel_rfl) (by kernel_rfl) ?_
  simp only [List.take_succ_cons, List.take_zero, List.drop_succ_cons, List.drop_zero]
  by_cases hq : cap = t
  · subst hq
    repeat (first | still_step)
    refine wpStill_nil ?_
    go_wp2_with fail
    refine ((W2 _ _).out (LR.out.upto k hk) (LR.out.none)).mono ?_
    rintro e w2 ⟨v, rfl, ho, hb2⟩
    go_wp2_with fail
    go_ret
    exact ⟨_, rfl, ho.row HO.out, hb.trans (hb2.mono hb.size)⟩
  · repeat (first | still_step)
    refine wpStill_nil ?_
    go_wp2_with fail
    refine ((W2 _ _).out (LR.out.upto k hk) (LR.out.slice t ht)).mono ?_
    rintro e w2 ⟨v, rfl, ho, hb2⟩
    go_wp2_with fail
    go_ret
    exact ⟨_, rfl, ho.row HO.out, hb.trans (hb2.mono hb.size)⟩


set_option maxRecDepth 100000 in
set_option maxHeartbeats 4000000 in
theorem listPut_calls (l : List Itm) (x : Itm) (v : Value) (w : World) (hR : Row 8 ic w l v) (hr : RiseI l) (hl : l.length ≤ 1000) (hx : x.id.size ≤ maxLen ∧ x.kd.size ≤ maxLen) :
    Calls Try.prog 16 #[v, iV x] w fun e w' => ∃ v', e = .returned v' ∧ Row 8 ic w' (putI l x) v' ∧ Below w.heap.size w w' := by
  have LR := Lib.hid (hR.alloc (.cells (iA x) 34))
  have S := Lib.hid (span_calls l x.id v _ LR.out hr (by omega))
  have OX := Lib.hid (Has.new w (iA x) 34)
  have BEL := Lib.hid ((Below.refl w.heap.size w).alloc (Nat.le_refl _) (.cells (iA x) 34))
  have E := Lib.hid (putI_span (x := x) hr)
  have HO := Lib.hid (show ∀ i ∈ putI l x, i.id.size ≤ maxLen ∧ i.kd.size ≤ maxLen from fun i hi => by
    rcases mem_put.1 hi with e | ⟨e, _⟩
    · rw [e]; exact hx
    · exact hR.oks i e)
  obtain ⟨oa, cap, rfl⟩ := hR.val
  have kx := hR.cap
  have hk := pos_le l x.id
  have ht := to_le l x.id
  have HX := Lib.hid hx
  clear hR hr hx
  generalize toI l x.id = t at *
  generalize posI l x.id = k at *
  have q1 : (0 : Int) ≤ (k : Int) := by omega
  have q2 : (k : Int) ≤ (cap : Int) := by omega
  have q3 : (0 : Int) ≤ (t : Int) := by omega
  have q4 : (t : Int) ≤ (l.length : Int) := by omega
  go_enter Try.func16, Try.ntmps16
  have l0 := OX.out.cell
  have z0 := OX.out.lt
  go_upto_region 2 with (go_at_call 25; clear l0 z0; refine S.out.mono ?_; rintro e w1 ⟨rfl, hb⟩; replace LR := Lib.hid (LR.out.later hb); replace OX := Lib.hid (OX.out.below hb OX.out.lt); replace BEL := Lib.hid (BEL.out.trans (hb.mono BEL.out.size)))
  have l1 := OX.out.cell
  have z1 := OX.out.lt
  have zb := BEL.out.size
  have W3 : ∀ (B : Nat) (va vc : Value), Hid (B = w1.heap.size + 1 → Row 8 ic w1 (l.take k) va → Row 8 ic w1 (l.drop t) vc → Calls Try.prog 27 #[.slice (some ⟨B, 0, none⟩) 3 3] ((w1.alloc (.cells (iA x) 34)).alloc (.cells #[va, .slice (some ⟨w1.heap.size, 0, none⟩) 1 1, vc] 28)).drew fun e w' => ∃ v, e = .returned v ∧ OwnI w' (w1.heap.size + 2) (putI l x) v ∧ Below w1.heap.size w1 w') := fun B va vc => Lib.hid (fun hB ha hc => by
    subst hB
    have o1 := (row_oneI w1 x 34 HX.out)
    have hs := Has.new (w1.alloc (.cells (iA x) 34)) #[va, .slice (some ⟨w1.heap.size, 0, none⟩) 1 1, vc] 28
    have h := concat3_calls (l.take k) [x] (l.drop t) va (.slice (some ⟨w1.heap.size, 0, none⟩) 1 1) vc (w1.alloc (.cells (iA x) 34)).heap.size ((w1.alloc (.cells (iA x) 34)).alloc (.cells #[va, .slice (some ⟨w1.heap.size, 0, none⟩) 1 1, vc] 28)).drew hs.drew.lt (hs.drew.cell 0) (hs.drew.cell 1) (hs.drew.cell 2) ((ha.alloc _).alloc _).drew (o1.alloc _).drew ((hc.alloc _).alloc _).drew (by rw [List.length_take]; omega) (by simp) (by rw [List.length_drop]; omega)
    rw [E.out, show (w1.alloc (.cells (iA x) 34)).heap.size = w1.heap.size + 1 by simp] at h
    refine h.mono ?_
    rintro e w' ⟨v, he, ho, hb⟩
    exact ⟨v, he, by simpa using ho, ((((Below.refl _ _).alloc (Nat.le_refl _) _).alloc (by simp) _).drew).trans (hb.mono (by simp; omega))⟩)
  by_cases hq : cap = t
  · subst hq
    go_region_held3 (fun w' => ∀ o, w'.cell? ⟨w.heap.size, o, none⟩ = (iA x)[o]?) (first | with_reducible exact OX2.out.cell | with_reducible exact OX.out.cell | with_reducible exact OX.out.drew.cell | with_reducible exact ((OX.out.alloc _).drew).cell | with_reducible exact ((OX.out.alloc _).drew.alloc _).cell | with_reducible exact (((OX.out.alloc _).alloc _).drew).cell) (first
      | (go_simp; go_at_call 27; with_reducible refine ((W3 _ _ _).out rfl (LR.out.upto k hk) LR.out.none).mono ?_; rintro e w2 ⟨v, rfl, ho, hb2⟩; have OX2 := Lib.hid (OX.out.below hb2 OX.out.lt))
      | fail)
    go_wp2_with fail
    go_ret
    exact ⟨_, rfl, ho.row HO.out, BEL.out.trans (hb2.mono BEL.out.size)⟩
  · go_region_held3 (fun w' => ∀ o, w'.cell? ⟨w.heap.size, o, none⟩ = (iA x)[o]?) (first | with_reducible exact OX2.out.cell | with_reducible exact OX.out.cell | with_reducible exact OX.out.drew.cell | with_reducible exact ((OX.out.alloc _).drew).cell | with_reducible exact ((OX.out.alloc _).drew.alloc _).cell | with_reducible exact (((OX.out.alloc _).alloc _).drew).cell) (first
      | (go_simp; go_at_call 27; with_reducible refine ((W3 _ _ _).out rfl (LR.out.upto k hk) (LR.out.slice t ht)).mono ?_; rintro e w2 ⟨v, rfl, ho, hb2⟩; have OX2 := Lib.hid (OX.out.below hb2 OX.out.lt))
      | fail)
    go_wp2_with fail
    go_ret
    exact ⟨_, rfl, ho.row HO.out, BEL.out.trans (hb2.mono BEL.out.size)⟩

end Go.Proofs.Ytbojpdlidgmckaa
