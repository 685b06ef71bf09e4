/- Which filter is seen in which: the code's walks. -/
import Derived.Test.YtechmejmlelmmaaHas
import Derived.Test.YtechmejmlelmmaaSeenM
namespace Go.Proofs.Ytechmejmlelmmaa
set_option linter.unusedVariables false
set_option linter.unusedSimpArgs false
set_option maxRecDepth 100000
open Go.RowKit

abbrev pv (p : Pr) (v : Value) : Value := .agg #[.int .i64 p.op, .string p.text, .int .i64 p.n, .complex .f64 p.x p.y, v]
abbrev pa (p : Pr) (v : Value) : Array Value := #[.int .i64 p.op, .string p.text, .int .i64 p.n, .complex .f64 p.x p.y, v]

/-- The code's seen answers for p and q as the document does. -/
def CSeen (p q : Pr) : Prop := ∀ (v v' : Value) (w : World), LP w p v → LP w q v' →
    Calls Try.prog 18 #[pv p v, pv q v'] w fun e w' => e = .returned (.bool (Pr.seenB p q)) ∧ Below w.heap.size w w'

/-- The closure fn over block bx answers P for k, behind w0. -/
def FnOk (fn : FuncId) (bx : Nat) (P : Pr → Bool) (k : Pr) (w0 : World) : Prop := ∀ (v : Value) (w : World), Below w0.heap.size w0 w → LP w k v →
    Calls Try.prog fn #[pv k v, .pointer (some ⟨bx, 0, none⟩)] w fun e w' => e = .returned (.bool (P k)) ∧ Below w.heap.size w w'
theorem FnOk.later {fn : FuncId} {bx : Nat} {P : Pr → Bool} {k : Pr} {w0 w1 : World} (h : FnOk fn bx P k w0) (hb : Below w0.heap.size w0 w1) : FnOk fn bx P k w1 :=
  fun v w hb' => h v w (hb.trans (hb'.mono hb.size))

/-! ### the closures -/
set_option maxHeartbeats 1000000 in
theorem kid1_calls (q : Pr) (v' : Value) (k : Pr) (H : CSeen k q) (bx : Nat) (w0 : World) (hM : LP w0 q v') (hx : Has w0 bx (pa q v')) : FnOk 40 bx (fun k => Pr.seenB k q) k w0 := by
  intro v w hb0 hL
  show Calls Try.prog 40 #[pv k v, .pointer (some ⟨bx, 0, none⟩)] w fun e w' => e = .returned (.bool (Pr.seenB k q)) ∧ Below w.heap.size w w'
  obtain ⟨oq, cq, rfl⟩ := lies_val hL
  obtain ⟨oq', cq', rfl⟩ := lies_val hM
  have C := Lib.hid (H _ _ (w.alloc (.cells (pa k (.slice oq k.kids.length cq)) 37)) (hL.atAlloc _) ((hM.later hb0 (Nat.le_refl _)).atAlloc _))
  have l1 := ((hx.below hb0 hx.lt).alloc (.cells (pa k (.slice oq k.kids.length cq)) 37)).cell
  have z1 := (hx.below hb0 hx.lt).lt
  generalize Pr.seenB k q = kb at *
  clear H hM hL hx hb0
  go_enter Try.func40, Try.ntmps40
  go_wp2_with (go_at_call 18; refine C.out.mono ?_; rintro e w' ⟨rfl, hb⟩)
  go_ret
  exact ⟨rfl, below_new hb⟩

set_option maxHeartbeats 1000000 in
theorem kid2_calls (p : Pr) (v' : Value) (k : Pr) (H : CSeen p k) (bx : Nat) (w0 : World) (hM : LP w0 p v') (hx : Has w0 bx (pa p v')) : FnOk 41 bx (fun k => Pr.seenB p k) k w0 := by
  intro v w hb0 hL
  show Calls Try.prog 41 #[pv k v, .pointer (some ⟨bx, 0, none⟩)] w fun e w' => e = .returned (.bool (Pr.seenB p k)) ∧ Below w.heap.size w w'
  obtain ⟨oq, cq, rfl⟩ := lies_val hL
  obtain ⟨oq', cq', rfl⟩ := lies_val hM
  have C := Lib.hid (H _ _ (w.alloc (.cells (pa k (.slice oq k.kids.length cq)) 37)) ((hM.later hb0 (Nat.le_refl _)).atAlloc _) (hL.atAlloc _))
  have l1 := ((hx.below hb0 hx.lt).alloc (.cells (pa k (.slice oq k.kids.length cq)) 37)).cell
  have z1 := (hx.below hb0 hx.lt).lt
  generalize Pr.seenB p k = kb at *
  clear H hM hL hx hb0
  go_enter Try.func41, Try.ntmps41
  go_wp2_with (go_at_call 18; refine C.out.mono ?_; rintro e w' ⟨rfl, hb⟩)
  go_ret
  exact ⟨rfl, below_new hb⟩

set_option maxHeartbeats 1000000 in
theorem all1_calls1 (bx bh : Nat) (P : Pr → Bool) (k : Pr) (w0 : World) (H : FnOk 40 bx P k w0) (hh : Has w0 bh #[.func (Fn.func 40) #[] #[.pointer (some ⟨bx, 0, none⟩)]]) : FnOk 50 bh (fun k => !P k) k w0 := by
  intro v w hb0 hL
  show Calls Try.prog 50 #[pv k v, .pointer (some ⟨bh, 0, none⟩)] w fun e w' => e = .returned (.bool (!P k)) ∧ Below w.heap.size w w'
  obtain ⟨oq, cq, rfl⟩ := lies_val hL
  have C := Lib.hid (H _ (w.alloc (.cells (pa k (.slice oq k.kids.length cq)) 37)) (hb0.alloc hb0.size _) (hL.atAlloc _))
  have l1 := ((hh.below hb0 hh.lt).alloc (.cells (pa k (.slice oq k.kids.length cq)) 37)).cell
  have z1 := (hh.below hb0 hh.lt).lt
  generalize P k = kb at *
  clear H hL hh hb0
  go_enter Try.func50, Try.ntmps50
  go_wp2_with (go_at_call 40; refine C.out.mono ?_; rintro e w' ⟨rfl, hb⟩)
  go_ret
  exact ⟨rfl, below_new hb⟩

set_option maxHeartbeats 1000000 in
theorem all1_calls2 (bx bh : Nat) (P : Pr → Bool) (k : Pr) (w0 : World) (H : FnOk 41 bx P k w0) (hh : Has w0 bh #[.func (Fn.func 41) #[] #[.pointer (some ⟨bx, 0, none⟩)]]) : FnOk 50 bh (fun k => !P k) k w0 := by
  intro v w hb0 hL
  show Calls Try.prog 50 #[pv k v, .pointer (some ⟨bh, 0, none⟩)] w fun e w' => e = .returned (.bool (!P k)) ∧ Below w.heap.size w w'
  obtain ⟨oq, cq, rfl⟩ := lies_val hL
  have C := Lib.hid (H _ (w.alloc (.cells (pa k (.slice oq k.kids.length cq)) 37)) (hb0.alloc hb0.size _) (hL.atAlloc _))
  have l1 := ((hh.below hb0 hh.lt).alloc (.cells (pa k (.slice oq k.kids.length cq)) 37)).cell
  have z1 := (hh.below hb0 hh.lt).lt
  generalize P k = kb at *
  clear H hL hh hb0
  go_enter Try.func50, Try.ntmps50
  go_wp2_with (go_at_call 41; refine C.out.mono ?_; rintro e w' ⟨rfl, hb⟩)
  go_ret
  exact ⟨rfl, below_new hb⟩

set_option maxHeartbeats 2000000 in
theorem index_calls1 (bx : Nat) (P : Pr → Bool) (l : List Pr) (oa : Option Addr) (cap : Nat) (w : World) (H : ∀ k ∈ l, FnOk 40 bx P k w) (hL : LK w l (.slice oa l.length cap)) :
    Calls Try.prog 20 #[.slice oa l.length cap, .func (Fn.func 40) #[] #[.pointer (some ⟨bx, 0, none⟩)]] w fun e w' =>
      ∃ n : Int, e = .returned (.int .i64 n) ∧ decide (0 ≤ n) = l.any P ∧ Below w.heap.size w w' := by
  obtain ⟨_, _, ba, o, V, e1, _, hl, hc, hn, hcell, hrec⟩ := lies_slice hL
  cases e1
  simp only [Pr.kids_node] at *
  unfold maxLen at hc
  have HC := Lib.hid hcell
  have HR := Lib.hid hrec
  have HN := Lib.hid hn
  have HH := Lib.hid H
  clear hL hcell hrec hn H
  generalize hla : l.length = la at *
  have HLA := Lib.hid hla
  clear hla
  go_enter Try.func20, Try.ntmps20
  go_wp2_with fail
  go_loopw [8] (fun j wr => IxRel P l la w j wr) (fun j _ => la - (intOf j).toNat)
  case atStart => exact ⟨0, Nat.zero_le _, rfl, by simp [Hid], Below.refl _ _⟩
  case round =>
    obtain ⟨k, hk, rfl, HS, hb⟩ := hrel
    by_cases hlt : k < la
    · obtain ⟨p, hp⟩ : ∃ p, l[k]? = some p := ⟨_, List.getElem?_eq_getElem (by rw [HLA.out]; exact hlt)⟩
      obtain ⟨rfl, hB⟩ := HN.out (by omega)
      obtain ⟨oq, cq, hV⟩ := lies_val (HR.out k p hp)
      obtain ⟨c0, c1, c2, c3, c4⟩ := pc_cells (w := wr) (fun j u hu => (hb.cell (p := ⟨ba, o + k * 5 + j, none⟩) hB).trans (HC.out k p hp j u hu))
      have L0 := (HR.out k p hp).later hb (Nat.le_refl _)
      rw [hV] at c4 L0
      have CC := HH.out p (List.mem_of_getElem? hp) (.slice oq p.kids.length cq) wr hb L0
      have HB := Lib.hid hb
      have HS0 := HS.out
      cases hs : P p
      · have HF := Lib.hid (any_step hp HS0 hs)
        rw [hs] at CC
        have CC := Lib.hid CC
        clear hb hV L0 HS0 hs hp
        go_wp2_with (go_at_call 40; refine CC.out.mono ?_; rintro e w' ⟨rfl, hb'⟩)
        go_roundw
        case rel => exact ⟨k + 1, by omega, by go_num, HF.out, HB.out.trans (hb'.mono HB.out.size)⟩
        case measure => simp [intOf]; omega
      · have HF := Lib.hid (any_hit hp hs)
        rw [hs] at CC
        have CC := Lib.hid CC
        clear hb hV L0 HS0 hs hp
        go_wp2_with (go_at_call 40; refine CC.out.mono ?_; rintro e w' ⟨rfl, hb'⟩)
        go_ret
        exact ⟨_, rfl, by rw [HF.out]; simp, HB.out.trans (hb'.mono HB.out.size)⟩
    · have HB := Lib.hid hb
      clear hb
      have e : k = la := by omega
      have h7 := HS.out
      rw [Pr.take_all l (by rw [HLA.out]; omega)] at h7
      have H7 := Lib.hid h7
      clear h7 e
      go_wp2_with fail
      go_ret
      exact ⟨_, rfl, by rw [H7.out]; simp, HB.out⟩

set_option maxHeartbeats 1000000 in
theorem contains_calls1 (bx : Nat) (P : Pr → Bool) (l : List Pr) (oa : Option Addr) (cap : Nat) (w : World) (H : ∀ k ∈ l, FnOk 40 bx P k w) (hL : LK w l (.slice oa l.length cap)) :
    Calls Try.prog 22 #[.slice oa l.length cap, .func (Fn.func 40) #[] #[.pointer (some ⟨bx, 0, none⟩)]] w fun e w' =>
      e = .returned (.bool (l.any P)) ∧ Below w.heap.size w w' := by
  have C := Lib.hid (index_calls1 bx P l oa cap w H hL)
  clear H hL
  go_enter Try.func22, Try.ntmps22
  go_wp2_with (go_at_call 20; refine C.out.mono ?_; rintro e w' ⟨n, rfl, hn, hb⟩)
  go_ret
  exact ⟨ret_bool (by rw [← hn]), hb⟩

set_option maxHeartbeats 2000000 in
theorem index_calls2 (bx : Nat) (P : Pr → Bool) (l : List Pr) (oa : Option Addr) (cap : Nat) (w : World) (H : ∀ k ∈ l, FnOk 41 bx P k w) (hL : LK w l (.slice oa l.length cap)) :
    Calls Try.prog 20 #[.slice oa l.length cap, .func (Fn.func 41) #[] #[.pointer (some ⟨bx, 0, none⟩)]] w fun e w' =>
      ∃ n : Int, e = .returned (.int .i64 n) ∧ decide (0 ≤ n) = l.any P ∧ Below w.heap.size w w' := by
  obtain ⟨_, _, ba, o, V, e1, _, hl, hc, hn, hcell, hrec⟩ := lies_slice hL
  cases e1
  simp only [Pr.kids_node] at *
  unfold maxLen at hc
  have HC := Lib.hid hcell
  have HR := Lib.hid hrec
  have HN := Lib.hid hn
  have HH := Lib.hid H
  clear hL hcell hrec hn H
  generalize hla : l.length = la at *
  have HLA := Lib.hid hla
  clear hla
  go_enter Try.func20, Try.ntmps20
  go_wp2_with fail
  go_loopw [8] (fun j wr => IxRel P l la w j wr) (fun j _ => la - (intOf j).toNat)
  case atStart => exact ⟨0, Nat.zero_le _, rfl, by simp [Hid], Below.refl _ _⟩
  case round =>
    obtain ⟨k, hk, rfl, HS, hb⟩ := hrel
    by_cases hlt : k < la
    · obtain ⟨p, hp⟩ : ∃ p, l[k]? = some p := ⟨_, List.getElem?_eq_getElem (by rw [HLA.out]; exact hlt)⟩
      obtain ⟨rfl, hB⟩ := HN.out (by omega)
      obtain ⟨oq, cq, hV⟩ := lies_val (HR.out k p hp)
      obtain ⟨c0, c1, c2, c3, c4⟩ := pc_cells (w := wr) (fun j u hu => (hb.cell (p := ⟨ba, o + k * 5 + j, none⟩) hB).trans (HC.out k p hp j u hu))
      have L0 := (HR.out k p hp).later hb (Nat.le_refl _)
      rw [hV] at c4 L0
      have CC := HH.out p (List.mem_of_getElem? hp) (.slice oq p.kids.length cq) wr hb L0
      have HB := Lib.hid hb
      have HS0 := HS.out
      cases hs : P p
      · have HF := Lib.hid (any_step hp HS0 hs)
        rw [hs] at CC
        have CC := Lib.hid CC
        clear hb hV L0 HS0 hs hp
        go_wp2_with (go_at_call 41; refine CC.out.mono ?_; rintro e w' ⟨rfl, hb'⟩)
        go_roundw
        case rel => exact ⟨k + 1, by omega, by go_num, HF.out, HB.out.trans (hb'.mono HB.out.size)⟩
        case measure => simp [intOf]; omega
      · have HF := Lib.hid (any_hit hp hs)
        rw [hs] at CC
        have CC := Lib.hid CC
        clear hb hV L0 HS0 hs hp
        go_wp2_with (go_at_call 41; refine CC.out.mono ?_; rintro e w' ⟨rfl, hb'⟩)
        go_ret
        exact ⟨_, rfl, by rw [HF.out]; simp, HB.out.trans (hb'.mono HB.out.size)⟩
    · have HB := Lib.hid hb
      clear hb
      have e : k = la := by omega
      have h7 := HS.out
      rw [Pr.take_all l (by rw [HLA.out]; omega)] at h7
      have H7 := Lib.hid h7
      clear h7 e
      go_wp2_with fail
      go_ret
      exact ⟨_, rfl, by rw [H7.out]; simp, HB.out⟩

set_option maxHeartbeats 1000000 in
theorem contains_calls2 (bx : Nat) (P : Pr → Bool) (l : List Pr) (oa : Option Addr) (cap : Nat) (w : World) (H : ∀ k ∈ l, FnOk 41 bx P k w) (hL : LK w l (.slice oa l.length cap)) :
    Calls Try.prog 22 #[.slice oa l.length cap, .func (Fn.func 41) #[] #[.pointer (some ⟨bx, 0, none⟩)]] w fun e w' =>
      e = .returned (.bool (l.any P)) ∧ Below w.heap.size w w' := by
  have C := Lib.hid (index_calls2 bx P l oa cap w H hL)
  clear H hL
  go_enter Try.func22, Try.ntmps22
  go_wp2_with (go_at_call 20; refine C.out.mono ?_; rintro e w' ⟨n, rfl, hn, hb⟩)
  go_ret
  exact ⟨ret_bool (by rw [← hn]), hb⟩

set_option maxHeartbeats 2000000 in
theorem index_callsA (bx : Nat) (P : Pr → Bool) (l : List Pr) (oa : Option Addr) (cap : Nat) (w : World) (H : ∀ k ∈ l, FnOk 50 bx P k w) (hL : LK w l (.slice oa l.length cap)) :
    Calls Try.prog 20 #[.slice oa l.length cap, .func (Fn.func 50) #[] #[.pointer (some ⟨bx, 0, none⟩)]] w fun e w' =>
      ∃ n : Int, e = .returned (.int .i64 n) ∧ decide (0 ≤ n) = l.any P ∧ Below w.heap.size w w' := by
  obtain ⟨_, _, ba, o, V, e1, _, hl, hc, hn, hcell, hrec⟩ := lies_slice hL
  cases e1
  simp only [Pr.kids_node] at *
  unfold maxLen at hc
  have HC := Lib.hid hcell
  have HR := Lib.hid hrec
  have HN := Lib.hid hn
  have HH := Lib.hid H
  clear hL hcell hrec hn H
  generalize hla : l.length = la at *
  have HLA := Lib.hid hla
  clear hla
  go_enter Try.func20, Try.ntmps20
  go_wp2_with fail
  go_loopw [8] (fun j wr => IxRel P l la w j wr) (fun j _ => la - (intOf j).toNat)
  case atStart => exact ⟨0, Nat.zero_le _, rfl, by simp [Hid], Below.refl _ _⟩
  case round =>
    obtain ⟨k, hk, rfl, HS, hb⟩ := hrel
    by_cases hlt : k < la
    · obtain ⟨p, hp⟩ : ∃ p, l[k]? = some p := ⟨_, List.getElem?_eq_getElem (by rw [HLA.out]; exact hlt)⟩
      obtain ⟨rfl, hB⟩ := HN.out (by omega)
      obtain ⟨oq, cq, hV⟩ := lies_val (HR.out k p hp)
      obtain ⟨c0, c1, c2, c3, c4⟩ := pc_cells (w := wr) (fun j u hu => (hb.cell (p := ⟨ba, o + k * 5 + j, none⟩) hB).trans (HC.out k p hp j u hu))
      have L0 := (HR.out k p hp).later hb (Nat.le_refl _)
      rw [hV] at c4 L0
      have CC := HH.out p (List.mem_of_getElem? hp) (.slice oq p.kids.length cq) wr hb L0
      have HB := Lib.hid hb
      have HS0 := HS.out
      cases hs : P p
      · have HF := Lib.hid (any_step hp HS0 hs)
        rw [hs] at CC
        have CC := Lib.hid CC
        clear hb hV L0 HS0 hs hp
        go_wp2_with (go_at_call 50; refine CC.out.mono ?_; rintro e w' ⟨rfl, hb'⟩)
        go_roundw
        case rel => exact ⟨k + 1, by omega, by go_num, HF.out, HB.out.trans (hb'.mono HB.out.size)⟩
        case measure => simp [intOf]; omega
      · have HF := Lib.hid (any_hit hp hs)
        rw [hs] at CC
        have CC := Lib.hid CC
        clear hb hV L0 HS0 hs hp
        go_wp2_with (go_at_call 50; refine CC.out.mono ?_; rintro e w' ⟨rfl, hb'⟩)
        go_ret
        exact ⟨_, rfl, by rw [HF.out]; simp, HB.out.trans (hb'.mono HB.out.size)⟩
    · have HB := Lib.hid hb
      clear hb
      have e : k = la := by omega
      have h7 := HS.out
      rw [Pr.take_all l (by rw [HLA.out]; omega)] at h7
      have H7 := Lib.hid h7
      clear h7 e
      go_wp2_with fail
      go_ret
      exact ⟨_, rfl, by rw [H7.out]; simp, HB.out⟩

set_option maxHeartbeats 1000000 in
theorem contains_callsA (bx : Nat) (P : Pr → Bool) (l : List Pr) (oa : Option Addr) (cap : Nat) (w : World) (H : ∀ k ∈ l, FnOk 50 bx P k w) (hL : LK w l (.slice oa l.length cap)) :
    Calls Try.prog 22 #[.slice oa l.length cap, .func (Fn.func 50) #[] #[.pointer (some ⟨bx, 0, none⟩)]] w fun e w' =>
      e = .returned (.bool (l.any P)) ∧ Below w.heap.size w w' := by
  have C := Lib.hid (index_callsA bx P l oa cap w H hL)
  clear H hL
  go_enter Try.func22, Try.ntmps22
  go_wp2_with (go_at_call 20; refine C.out.mono ?_; rintro e w' ⟨n, rfl, hn, hb⟩)
  go_ret
  exact ⟨ret_bool (by rw [← hn]), hb⟩

theorem all_not (P : Pr → Bool) (l : List Pr) : l.all P = !(l.any fun k => !P k) := by
  induction l with
  | nil => rfl
  | cons a l ih => simp only [List.all_cons, List.any_cons, Bool.not_or, Bool.not_not, ih]

set_option maxHeartbeats 1000000 in
theorem all_calls1 (bx : Nat) (P : Pr → Bool) (l : List Pr) (oa : Option Addr) (cap : Nat) (w : World) (H : ∀ k ∈ l, FnOk 40 bx P k w) (hL : LK w l (.slice oa l.length cap)) :
    Calls Try.prog 42 #[.slice oa l.length cap, .func (Fn.func 40) #[] #[.pointer (some ⟨bx, 0, none⟩)]] w fun e w' =>
      e = .returned (.bool (l.all P)) ∧ Below w.heap.size w w' := by
  have C := Lib.hid (contains_callsA w.heap.size (fun k => !P k) l oa cap (w.alloc (.cells #[.func (Fn.func 40) #[] #[.pointer (some ⟨bx, 0, none⟩)]] 48))
    (fun k hk => all1_calls1 bx w.heap.size P k _ ((H k hk).later ((Below.refl _ _).alloc (Nat.le_refl _) _)) (Has.new w _ _)) (hL.atAlloc _))
  have E := Lib.hid (all_not P l)
  clear H hL
  go_enter Try.func42, Try.ntmps42
  go_wp2_with (go_at_call 22; refine C.out.mono ?_; rintro e w' ⟨rfl, hb⟩)
  go_ret
  exact ⟨ret_bool E.out.symm, below_new hb⟩

set_option maxHeartbeats 1000000 in
theorem all_calls2 (bx : Nat) (P : Pr → Bool) (l : List Pr) (oa : Option Addr) (cap : Nat) (w : World) (H : ∀ k ∈ l, FnOk 41 bx P k w) (hL : LK w l (.slice oa l.length cap)) :
    Calls Try.prog 42 #[.slice oa l.length cap, .func (Fn.func 41) #[] #[.pointer (some ⟨bx, 0, none⟩)]] w fun e w' =>
      e = .returned (.bool (l.all P)) ∧ Below w.heap.size w w' := by
  have C := Lib.hid (contains_callsA w.heap.size (fun k => !P k) l oa cap (w.alloc (.cells #[.func (Fn.func 41) #[] #[.pointer (some ⟨bx, 0, none⟩)]] 48))
    (fun k hk => all1_calls2 bx w.heap.size P k _ ((H k hk).later ((Below.refl _ _).alloc (Nat.le_refl _) _)) (Has.new w _ _)) (hL.atAlloc _))
  have E := Lib.hid (all_not P l)
  clear H hL
  go_enter Try.func42, Try.ntmps42
  go_wp2_with (go_at_call 22; refine C.out.mono ?_; rintro e w' ⟨rfl, hb⟩)
  go_ret
  exact ⟨ret_bool E.out.symm, below_new hb⟩

end Go.Proofs.Ytechmejmlelmmaa
