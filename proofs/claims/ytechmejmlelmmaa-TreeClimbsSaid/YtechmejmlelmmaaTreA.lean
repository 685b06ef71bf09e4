/- tree: which filter is the root: the code's walks. -/
import Derived.Test.YtechmejmlelmmaaTreM
import Derived.Test.YtechmejmlelmmaaContIn
import Derived.Test.YtechmejmlelmmaaSame
namespace Go.Proofs.Ytechmejmlelmmaa
set_option linter.unusedVariables false
set_option linter.unusedSimpArgs false
set_option maxRecDepth 100000
open Go.RowKit

abbrev pvT (p : Pr) (v : Value) : Value := .agg #[.int .i64 p.op, .string p.text, .int .i64 p.n, .complex .f64 p.x p.y, v]
/-- A function of one filter. -/
def FnT (f : FuncId) (P : Pr → Bool) (k : Pr) : Prop := ∀ (v : Value) (w : World), LP w k v → Calls Try.prog f #[pvT k v] w fun e w' => e = .returned (.bool (P k)) ∧ Below w.heap.size w w'
def starB (p : Pr) : Bool := p.op == 1
def oddB (p : Pr) : Bool := !p.mayB

set_option maxHeartbeats 1000000 in
theorem isStar_fn (k : Pr) : FnT 21 starB k := by
  intro v w hL
  obtain ⟨oq, cq, rfl⟩ := lies_val hL
  have B0 := Lib.hid ((Below.refl w.heap.size w).alloc (Nat.le_refl _) (.cells #[.int .i64 k.op, .string k.text, .int .i64 k.n, .complex .f64 k.x k.y, .slice oq k.kids.length cq] 37))
  have l1 := (Has.new w #[.int .i64 k.op, .string k.text, .int .i64 k.n, .complex .f64 k.x k.y, .slice oq k.kids.length cq] 37).cell
  have HE := Lib.hid (show starB k = (k.op == 1) from rfl)
  generalize starB k = res at *
  clear hL
  go_enter Try.func21, Try.ntmps21
  go_wp2_with fail
  go_ret
  exact ⟨ret_bool (by rw [HE.out]), B0.out⟩

set_option maxHeartbeats 1000000 in
theorem odd_fn (k : Pr) (hs : k.size ≤ 1000) : FnT 23 oddB k := by
  intro v w hL
  obtain ⟨oq, cq, rfl⟩ := lies_val hL
  have C := Lib.hid (contIn_calls k k (.slice oq k.kids.length cq) (.slice oq k.kids.length cq) (w.alloc (.cells #[.int .i64 k.op, .string k.text, .int .i64 k.n, .complex .f64 k.x k.y, .slice oq k.kids.length cq] 37)) (hL.atAlloc _) (hL.atAlloc _) hs hs)
  have l1 := (Has.new w #[.int .i64 k.op, .string k.text, .int .i64 k.n, .complex .f64 k.x k.y, .slice oq k.kids.length cq] 37).cell
  have HE := Lib.hid (show oddB k = !Pr.inB k k by
    unfold oddB
    cases h : k.mayB
    · rw [Pr.in_not (.inl h)]
    · rw [Pr.in_self h])
  generalize oddB k = res at *
  generalize Pr.inB k k = kb at *
  clear hL hs
  go_enter Try.func23, Try.ntmps23
  go_wp2_with (go_at_call 10; refine C.out.mono ?_; rintro e w' ⟨rfl, hb⟩)
  go_ret
  exact ⟨ret_bool (by rw [HE.out]), below_new hb⟩

def IxT (P : Pr → Bool) (l : List Pr) (len : Nat) (w0 : World) (i : Value) (wr : World) : Prop :=
  ∃ k : Nat, k ≤ len ∧ i = .int .i64 k ∧ Hid ((l.take k).any P = false) ∧ Below w0.heap.size w0 wr
/-- What IndexFunc tells. -/
def idxI (P : Pr → Bool) (l : List Pr) : Int := match l.findIdx? P with | some r => (r : Int) | none => -1
theorem ix_step {P : Pr → Bool} {l : List Pr} {k : Nat} {q : Pr} (hq : l[k]? = some q) (h : (l.take k).any P = false) (hs : P q = false) : (l.take (k + 1)).any P = false := by
  rw [Pr.take_one hq, List.any_append, h]; simp [hs]
theorem ix_hit {P : Pr → Bool} {l : List Pr} {k : Nat} {q : Pr} (hq : l[k]? = some q) (h : (l.take k).any P = false) (hs : P q = true) : idxI P l = k := by
  unfold idxI
  have : l.findIdx? P = some k := by
    obtain ⟨hk, e⟩ := List.getElem?_eq_some_iff.1 hq
    refine List.findIdx?_eq_some_iff_getElem.2 ⟨hk, by rw [e]; exact hs, fun j hj => ?_⟩
    rw [List.any_eq_false] at h
    have := h l[j] (by rw [List.mem_iff_getElem]; exact ⟨j, by rw [List.length_take]; omega, by simp⟩)
    simpa using this
  rw [this]
theorem ix_none {P : Pr → Bool} {l : List Pr} (h : l.any P = false) : idxI P l = -1 := by
  unfold idxI
  have : l.findIdx? P = none := by
    rw [List.findIdx?_eq_none_iff]
    intro x hx
    rw [List.any_eq_false] at h
    simpa using h x hx
  rw [this]
theorem ix_any {P : Pr → Bool} {l : List Pr} : decide (0 ≤ idxI P l) = l.any P := by
  cases h : l.any P
  · rw [ix_none h]; rfl
  · unfold idxI
    cases hf : l.findIdx? P with
    | none =>
      rw [List.findIdx?_eq_none_iff] at hf
      obtain ⟨x, hx, h1⟩ := List.any_eq_true.1 h
      rw [hf x hx] at h1; cases h1
    | some r => show decide (0 ≤ (r : Int)) = true; simp

set_option maxHeartbeats 2000000 in
theorem idxStar_calls (P : Pr → Bool) (l : List Pr) (oa : Option Addr) (cap : Nat) (w : World) (H : ∀ k ∈ l, FnT 21 P k) (hL : LK w l (.slice oa l.length cap)) :
    Calls Try.prog 20 #[.slice oa l.length cap, .func (Fn.func 21) #[] #[]] w fun e w' =>
      e = .returned (.int .i64 (idxI P l)) ∧ Below w.heap.size w w' := by
  obtain ⟨_, _, ba, o, V, e1, _, hl, hc, hn, hcell, hrec⟩ := lies_slice hL
  cases e1
  simp only [Pr.kids_node] at *
  unfold maxLen at hc
  have HC := Lib.hid hcell
  have HR := Lib.hid hrec
  have HN := Lib.hid hn
  have HH := Lib.hid H
  clear hL hcell hrec hn H
  generalize hla : l.length = la at *
  have HLA := Lib.hid hla
  clear hla
  go_enter Try.func20, Try.ntmps20
  go_wp2_with fail
  go_loopw [8] (fun j wr => IxT P l la w j wr) (fun j _ => la - (intOf j).toNat)
  case atStart => exact ⟨0, Nat.zero_le _, rfl, by simp [Hid], Below.refl _ _⟩
  case round =>
    obtain ⟨k, hk, rfl, HS, hb⟩ := hrel
    by_cases hlt : k < la
    · obtain ⟨p, hp⟩ : ∃ p, l[k]? = some p := ⟨_, List.getElem?_eq_getElem (by rw [HLA.out]; exact hlt)⟩
      obtain ⟨rfl, hB⟩ := HN.out (by omega)
      obtain ⟨oq, cq, hV⟩ := lies_val (HR.out k p hp)
      obtain ⟨c0, c1, c2, c3, c4⟩ := pc_cells (w := wr) (fun j u hu => (hb.cell (p := ⟨ba, o + k * 5 + j, none⟩) hB).trans (HC.out k p hp j u hu))
      have L0 := (HR.out k p hp).later hb (Nat.le_refl _)
      rw [hV] at c4 L0
      have CC := HH.out p (List.mem_of_getElem? hp) (.slice oq p.kids.length cq) wr L0
      have HB := Lib.hid hb
      have HS0 := HS.out
      cases hs : P p
      · have HF := Lib.hid (ix_step hp HS0 hs)
        rw [hs] at CC
        have CC := Lib.hid CC
        clear hb hV L0 HS0 hs hp
        go_wp2_with (go_at_call 21; refine CC.out.mono ?_; rintro e w' ⟨rfl, hb'⟩)
        go_roundw
        case rel => exact ⟨k + 1, by omega, by go_num, HF.out, HB.out.trans (hb'.mono HB.out.size)⟩
        case measure => simp [intOf]; omega
      · have HF := Lib.hid (ix_hit hp HS0 hs)
        rw [hs] at CC
        have CC := Lib.hid CC
        clear hb hV L0 HS0 hs hp
        go_wp2_with (go_at_call 21; refine CC.out.mono ?_; rintro e w' ⟨rfl, hb'⟩)
        go_ret
        exact ⟨ret_int HF.out.symm, HB.out.trans (hb'.mono HB.out.size)⟩
    · have HB := Lib.hid hb
      clear hb
      have e : k = la := by omega
      have h7 := HS.out
      rw [Pr.take_all l (by rw [HLA.out]; omega)] at h7
      have H7 := Lib.hid (ix_none h7)
      clear h7 e
      go_wp2_with fail
      go_ret
      exact ⟨ret_int H7.out.symm, HB.out⟩

set_option maxHeartbeats 2000000 in
theorem idxOdd_calls (P : Pr → Bool) (l : List Pr) (oa : Option Addr) (cap : Nat) (w : World) (H : ∀ k ∈ l, FnT 23 P k) (hL : LK w l (.slice oa l.length cap)) :
    Calls Try.prog 20 #[.slice oa l.length cap, .func (Fn.func 23) #[] #[]] w fun e w' =>
      e = .returned (.int .i64 (idxI P l)) ∧ Below w.heap.size w w' := by
  obtain ⟨_, _, ba, o, V, e1, _, hl, hc, hn, hcell, hrec⟩ := lies_slice hL
  cases e1
  simp only [Pr.kids_node] at *
  unfold maxLen at hc
  have HC := Lib.hid hcell
  have HR := Lib.hid hrec
  have HN := Lib.hid hn
  have HH := Lib.hid H
  clear hL hcell hrec hn H
  generalize hla : l.length = la at *
  have HLA := Lib.hid hla
  clear hla
  go_enter Try.func20, Try.ntmps20
  go_wp2_with fail
  go_loopw [8] (fun j wr => IxT P l la w j wr) (fun j _ => la - (intOf j).toNat)
  case atStart => exact ⟨0, Nat.zero_le _, rfl, by simp [Hid], Below.refl _ _⟩
  case round =>
    obtain ⟨k, hk, rfl, HS, hb⟩ := hrel
    by_cases hlt : k < la
    · obtain ⟨p, hp⟩ : ∃ p, l[k]? = some p := ⟨_, List.getElem?_eq_getElem (by rw [HLA.out]; exact hlt)⟩
      obtain ⟨rfl, hB⟩ := HN.out (by omega)
      obtain ⟨oq, cq, hV⟩ := lies_val (HR.out k p hp)
      obtain ⟨c0, c1, c2, c3, c4⟩ := pc_cells (w := wr) (fun j u hu => (hb.cell (p := ⟨ba, o + k * 5 + j, none⟩) hB).trans (HC.out k p hp j u hu))
      have L0 := (HR.out k p hp).later hb (Nat.le_refl _)
      rw [hV] at c4 L0
      have CC := HH.out p (List.mem_of_getElem? hp) (.slice oq p.kids.length cq) wr L0
      have HB := Lib.hid hb
      have HS0 := HS.out
      cases hs : P p
      · have HF := Lib.hid (ix_step hp HS0 hs)
        rw [hs] at CC
        have CC := Lib.hid CC
        clear hb hV L0 HS0 hs hp
        go_wp2_with (go_at_call 23; refine CC.out.mono ?_; rintro e w' ⟨rfl, hb'⟩)
        go_roundw
        case rel => exact ⟨k + 1, by omega, by go_num, HF.out, HB.out.trans (hb'.mono HB.out.size)⟩
        case measure => simp [intOf]; omega
      · have HF := Lib.hid (ix_hit hp HS0 hs)
        rw [hs] at CC
        have CC := Lib.hid CC
        clear hb hV L0 HS0 hs hp
        go_wp2_with (go_at_call 23; refine CC.out.mono ?_; rintro e w' ⟨rfl, hb'⟩)
        go_ret
        exact ⟨ret_int HF.out.symm, HB.out.trans (hb'.mono HB.out.size)⟩
    · have HB := Lib.hid hb
      clear hb
      have e : k = la := by omega
      have h7 := HS.out
      rw [Pr.take_all l (by rw [HLA.out]; omega)] at h7
      have H7 := Lib.hid (ix_none h7)
      clear h7 e
      go_wp2_with fail
      go_ret
      exact ⟨ret_int H7.out.symm, HB.out⟩

set_option maxHeartbeats 1000000 in
theorem hasOdd_calls (P : Pr → Bool) (l : List Pr) (oa : Option Addr) (cap : Nat) (w : World) (H : ∀ k ∈ l, FnT 23 P k) (hL : LK w l (.slice oa l.length cap)) :
    Calls Try.prog 22 #[.slice oa l.length cap, .func (Fn.func 23) #[] #[]] w fun e w' =>
      e = .returned (.bool (l.any P)) ∧ Below w.heap.size w w' := by
  have C := Lib.hid (idxOdd_calls P l oa cap w H hL)
  clear H hL
  go_enter Try.func22, Try.ntmps22
  go_wp2_with (go_at_call 20; refine C.out.mono ?_; rintro e w' ⟨rfl, hb⟩)
  go_ret
  exact ⟨ret_bool (by rw [← ix_any]), hb⟩

/-- What rootOf tells. -/
def rootV (l : List Pr) : Value := match trRoot l with | some r => .tuple #[.int .i64 r, .bool true] | none => .tuple #[.int .i64 0, .bool false]
theorem rootV_long {l : List Pr} (h : 8 < l.length) : rootV l = .tuple #[.int .i64 0, .bool false] := by
  unfold rootV trRoot
  rw [if_neg (by omega)]
theorem any_odd (l : List Pr) : l.any oddB = !(l.all Pr.mayB) := by
  induction l with
  | nil => rfl
  | cons a l ih => simp [List.any_cons, List.all_cons, ih, oddB]
theorem rootV_odd {l : List Pr} (h : l.any oddB = true) : rootV l = .tuple #[.int .i64 0, .bool false] := by
  unfold rootV trRoot
  rw [any_odd] at h
  rw [if_neg (by rintro ⟨_, h1⟩; rw [h1] at h; cases h)]
theorem rootV_none {l : List Pr} (h : idxI starB l < 0) : rootV l = .tuple #[.int .i64 0, .bool false] := by
  unfold rootV trRoot
  have : l.findIdx? (fun p => p.op == 1) = none := by
    cases hf : l.findIdx? (fun p => p.op == 1) with
    | none => rfl
    | some r =>
      unfold idxI at h
      rw [show l.findIdx? starB = some r from hf] at h
      simp at h; omega
  rw [this]
  split <;> simp_all
theorem rootV_some {l : List Pr} {n : Int} (h : idxI starB l = n) (h0 : 0 ≤ n) (h8 : l.length ≤ 8) (ho : l.any oddB = false) : rootV l = .tuple #[.int .i64 n, .bool true] := by
  unfold rootV trRoot
  rw [any_odd] at ho
  rw [if_pos ⟨h8, by simpa using ho⟩]
  unfold idxI at h
  cases hf : l.findIdx? (fun p => p.op == 1) with
  | none =>
    rw [show l.findIdx? starB = none from hf] at h
    simp at h; omega
  | some r =>
    rw [show l.findIdx? starB = some r from hf] at h
    simp at h; subst h; rfl

set_option maxHeartbeats 1000000 in
theorem rootOf_calls (l : List Pr) (oa : Option Addr) (cap : Nat) (w : World) (hS : ∀ k ∈ l, k.size ≤ 1000) (hL : LK w l (.slice oa l.length cap)) :
    Calls Try.prog 13 #[.slice oa l.length cap] w fun e w' => e = .returned (rootV l) ∧ Below w.heap.size w w' := by
  have C1 := Lib.hid (idxStar_calls starB l oa cap w (fun k _ => isStar_fn k) hL)
  have C2 := fun w' hb => Lib.hid (hasOdd_calls oddB l oa cap w' (fun k hk => odd_fn k (hS k hk)) (hL.later hb (Nat.le_refl _)))
  have R1 := Lib.hid (fun h => rootV_long (l := l) h)
  have R2 := Lib.hid (fun h => rootV_odd (l := l) h)
  have R3 := Lib.hid (fun h => rootV_none (l := l) h)
  have R4 := Lib.hid (fun n h => rootV_some (l := l) (n := n) h)
  generalize rootV l = RV at *
  generalize idxI starB l = n at *
  generalize l.any oddB = o at *
  generalize l.length = len at *
  clear hL hS
  by_cases h8 : 8 < len
  · have E := Lib.hid (R1.out h8)
    go_enter Try.func13, Try.ntmps13
    go_wp2_with fail
    go_ret2
    exact ⟨congrArg Ending.returned E.out.symm, Below.refl _ _⟩
  · by_cases hn : n < 0
    · have E := Lib.hid (R3.out hn)
      go_enter Try.func13, Try.ntmps13
      go_wp2_with (go_at_call 20; refine C1.out.mono ?_; rintro e w' ⟨rfl, hb⟩)
      go_ret2
      exact ⟨congrArg Ending.returned E.out.symm, hb⟩
    · have hn' : 0 ≤ n := by omega
      cases o
      · have E := Lib.hid (R4.out n rfl (by omega) (by omega) rfl)
        go_enter Try.func13, Try.ntmps13
        go_wp2_with (first | (go_at_call 20; refine C1.out.mono ?_; rintro e w' ⟨rfl, hb⟩) | (go_at_call 22; refine (C2 _ hb).out.mono ?_; rintro e w2 ⟨rfl, hb2⟩))
        go_ret2
        exact ⟨congrArg Ending.returned E.out.symm, hb.trans (hb2.mono hb.size)⟩
      · have E := Lib.hid (R2.out rfl)
        go_enter Try.func13, Try.ntmps13
        go_wp2_with (first | (go_at_call 20; refine C1.out.mono ?_; rintro e w' ⟨rfl, hb⟩) | (go_at_call 22; refine (C2 _ hb).out.mono ?_; rintro e w2 ⟨rfl, hb2⟩))
        go_ret2
        exact ⟨congrArg Ending.returned E.out.symm, hb.trans (hb2.mono hb.size)⟩

end Go.Proofs.Ytechmejmlelmmaa
