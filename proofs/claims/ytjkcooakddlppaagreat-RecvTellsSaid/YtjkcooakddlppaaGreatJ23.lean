/- Joined: Has, HasC, LBoth, RefSame. -/
import Derived.Test.YtjkcooakddlppaaGreatJ10
import Derived.Test.YtjkcooakddlppaaGreatJ18
import Derived.Test.YtjkcooakddlppaaGreatJ15
import Derived.Test.YtjkcooakddlppaaGreatJ01
import Derived.Test.YtjkcooakddlppaaGreatJ19
import Derived.Test.YtjkcooakddlppaaGreatJ22
import Derived.Laws.MakeOwn
/- Which items a filter has: the code's walks. -/
namespace Go.Proofs.YtjkcooakddlppaaGreat
set_option linter.unusedVariables false
set_option linter.unusedSimpArgs false
set_option maxRecDepth 100000
open Go.RowKit
/-! ### some -/
abbrev itV (i : It) (r c st : Int) (d : Bool) : Value := .agg #[.string i.id, .int .i64 r, .int .i64 c, .int .i64 st, .string i.kd, .int .i64 i.num, .complex .f64 i.ax i.ay, .bool d]
abbrev itC (i : It) (r c st : Int) (d : Bool) : Array Value := #[.string i.id, .int .i64 r, .int .i64 c, .int .i64 st, .string i.kd, .int .i64 i.num, .complex .f64 i.ax i.ay, .bool d]
def HasFn (i : It) (r c st : Int) (d : Bool) (k : Pr) : Prop := ∀ (v : Value) (w : World), LP w k v →
    Calls Tryz.prog 93 #[.agg #[.int .i64 k.op, .string k.text, .int .i64 k.n, .complex .f64 k.x k.y, v], itV i r c st d] w fun e w' => e = .returned (.bool (k.hasB i)) ∧ Below w.heap.size w w'
set_option maxHeartbeats 1000000 in
theorem some1_calls (i : It) (r c st : Int) (d b : Bool) (k : Pr) (H : HasFn i r c st d k) (v : Value) (w : World) (hL : LP w k v) (bx bh : Nat) (hx : Has w bx (itC i r c st d)) (hh : Has w bh #[.bool b]) :
    Calls Tryz.prog 167 #[.agg #[.int .i64 k.op, .string k.text, .int .i64 k.n, .complex .f64 k.x k.y, v], .pointer (some ⟨bx, 0, none⟩), .pointer (some ⟨bh, 0, none⟩)] w fun e w' => e = .returned (.bool (k.hasB i == b)) ∧ Below w.heap.size w w' := by
  obtain ⟨oq, cq, rfl⟩ := lies_val hL
  have CC := fun dd os o => H (.slice oq k.kids.length cq) (Sort.grow (redrawn (w.alloc o) dd) os) ((hL.atAlloc o).later (below_regrown _ _ _) (Nat.le_refl _))
  have m3 := fun dd os o => Lib.hid (Calls.regrown_of (CC dd os o))
  have G1 := Lib.hid (Has.new w #[.int .i64 k.op, .string k.text, .int .i64 k.n, .complex .f64 k.x k.y, .slice oq k.kids.length cq] 43)
  have l1 := G1.out.cell
  have LA := fun dd os o => G1.out.regrown dd os o
  have LB := fun dd os a o => (hx.alloc a).regrown dd os o
  have LC := fun dd os a o => (hh.alloc a).regrown dd os o
  have z1 := hx.lt
  have z2 := hh.lt
  generalize Pr.hasB i k = kb at *
  clear CC hL H hx hh
  go_enter Tryz.func167, Tryz.ntmps167
  go_wp2_with fail
  refine wp_region_quiet_below (by kernel_rfl) (by kernel_rfl) ?_
  repeat (first | go_big_quiet_step ((with_reducible exact (m3 _ _ _).out)) | quiet_step (with_reducible exact (m3 _ _ _).out))
  refine wpQuiet_nil ?_
  intro w7 hw'
  have hb' := Lib.hid (regrown_below hw')
  clear hw' m3 LA LB LC
  go_wp2_with fail
  go_ret
  exact ⟨rfl, below_new hb'.out⟩
def IxRel (P : Pr → Bool) (l : List Pr) (len : Nat) (w0 : World) (i : Value) (wr : World) : Prop :=
  ∃ k : Nat, k ≤ len ∧ i = .int .i64 k ∧ Hid ((l.take k).any P = false) ∧ Below w0.heap.size w0 wr
theorem any_step {P : Pr → Bool} {l : List Pr} {k : Nat} {q : Pr} (hq : l[k]? = some q) (h : (l.take k).any P = false) (hs : P q = false) : (l.take (k + 1)).any P = false := by
  rw [Pr.take_one hq, List.any_append, h]; simp [hs]
theorem any_hit {P : Pr → Bool} {l : List Pr} {k : Nat} {q : Pr} (hq : l[k]? = some q) (hs : P q = true) : l.any P = true := by
  rw [List.any_eq_true]; exact ⟨q, List.mem_of_getElem? hq, hs⟩
set_option maxHeartbeats 2000000 in
theorem index1_calls (i : It) (r c st : Int) (d b : Bool) (l : List Pr) (H : ∀ k ∈ l, HasFn i r c st d k) (oa : Option Addr) (cap : Nat) (w : World) (hL : LK w l (.slice oa l.length cap)) (bx bh : Nat) (hx : Has w bx (itC i r c st d)) (hh : Has w bh #[.bool b]) :
    Calls Tryz.prog 177 #[.slice oa l.length cap, .func (Fn.func 167) #[] #[.pointer (some ⟨bx, 0, none⟩), .pointer (some ⟨bh, 0, none⟩)]] w fun e w' =>
      ∃ n : Int, e = .returned (.int .i64 n) ∧ decide (0 ≤ n) = (l.any fun k => k.hasB i == b) ∧ Below w.heap.size w w' := by
  obtain ⟨_, _, ba, o, V, e1, _, hl, hc, hn, hcell, hrec⟩ := lies_slice hL
  cases e1
  simp only [Pr.kids_node] at *
  unfold maxLen at hc
  have HC := Lib.hid hcell
  have HR := Lib.hid hrec
  have HN := Lib.hid hn
  have HH := Lib.hid H
  have HX := Lib.hid hx
  have HB2 := Lib.hid hh
  clear hL hcell hrec hn H hx hh
  generalize hla : l.length = la at *
  have HLA := Lib.hid hla
  clear hla
  go_enter Tryz.func177, Tryz.ntmps177
  go_wp2_with fail
  go_loopw [8] (fun j wr => IxRel (fun k => k.hasB i == b) l la w j wr) (fun j _ => la - (intOf j).toNat)
  case atStart => exact ⟨0, Nat.zero_le _, rfl, by simp [Hid], Below.refl _ _⟩
  case round =>
    obtain ⟨k, hk, rfl, HS, hb⟩ := hrel
    by_cases hlt : k < la
    · obtain ⟨p, hp⟩ : ∃ p, l[k]? = some p := ⟨_, List.getElem?_eq_getElem (by rw [HLA.out]; exact hlt)⟩
      obtain ⟨rfl, hB⟩ := HN.out (by omega)
      obtain ⟨oq, cq, hV⟩ := lies_val (HR.out k p hp)
      obtain ⟨c0, c1, c2, c3, c4⟩ := pc_cells (w := wr) (fun j u hu => (hb.cell (p := ⟨ba, o + k * 5 + j, none⟩) hB).trans (HC.out k p hp j u hu))
      have L0 := (HR.out k p hp).later hb (Nat.le_refl _)
      rw [hV] at c4 L0
      have CC := some1_calls i r c st d b p (HH.out p (List.mem_of_getElem? hp)) (.slice oq p.kids.length cq) wr L0 bx bh (HX.out.below hb HX.out.lt) (HB2.out.below hb HB2.out.lt)
      have HB := Lib.hid hb
      have HS0 := HS.out
      cases hs : (p.hasB i == b)
      · have HF := Lib.hid (any_step (P := fun k => k.hasB i == b) hp HS0 hs)
        rw [hs] at CC
        have CC := Lib.hid CC
        clear hb hV L0 HS0 hs hp
        go_wp2_with (go_at_call 167; refine CC.out.mono ?_; rintro e w' ⟨rfl, hb'⟩)
        go_roundw
        case rel => exact ⟨k + 1, by omega, by go_num, HF.out, HB.out.trans (hb'.mono HB.out.size)⟩
        case measure => simp [intOf]; omega
      · have HF := Lib.hid (any_hit (P := fun k => k.hasB i == b) hp hs)
        rw [hs] at CC
        have CC := Lib.hid CC
        clear hb hV L0 HS0 hs hp
        go_wp2_with (go_at_call 167; refine CC.out.mono ?_; rintro e w' ⟨rfl, hb'⟩)
        go_ret
        exact ⟨_, rfl, by rw [HF.out]; simp, HB.out.trans (hb'.mono HB.out.size)⟩
    · have HB := Lib.hid hb
      clear hb
      have e : k = la := by omega
      have h7 := HS.out
      rw [Pr.take_all l (by rw [HLA.out]; omega)] at h7
      have H7 := Lib.hid h7
      clear h7 e
      go_wp2_with fail
      go_ret
      exact ⟨_, rfl, by rw [H7.out]; simp, HB.out⟩
set_option maxHeartbeats 1000000 in
theorem contains1_calls (i : It) (r c st : Int) (d b : Bool) (l : List Pr) (H : ∀ k ∈ l, HasFn i r c st d k) (oa : Option Addr) (cap : Nat) (w : World) (hL : LK w l (.slice oa l.length cap)) (bx bh : Nat) (hx : Has w bx (itC i r c st d)) (hh : Has w bh #[.bool b]) :
    Calls Tryz.prog 166 #[.slice oa l.length cap, .func (Fn.func 167) #[] #[.pointer (some ⟨bx, 0, none⟩), .pointer (some ⟨bh, 0, none⟩)]] w fun e w' =>
      e = .returned (.bool (l.any fun k => k.hasB i == b)) ∧ Below w.heap.size w w' := by
  have C := Lib.hid (index1_calls i r c st d b l H oa cap w hL bx bh hx hh)
  clear H hL hx hh
  go_enter Tryz.func166, Tryz.ntmps166
  go_wp2_with (go_at_call 177; refine C.out.mono ?_; rintro e w' ⟨n, rfl, hn, hb⟩)
  go_ret
  exact ⟨ret_bool (by rw [← hn]), hb⟩
set_option maxHeartbeats 1000000 in
theorem some_calls (i : It) (r c st : Int) (d b : Bool) (l : List Pr) (H : ∀ k ∈ l, HasFn i r c st d k) (oa : Option Addr) (cap : Nat) (w : World) (hL : LK w l (.slice oa l.length cap)) :
    Calls Tryz.prog 143 #[.slice oa l.length cap, itV i r c st d, .bool b] w fun e w' =>
      e = .returned (.bool (l.any fun k => k.hasB i == b)) ∧ Below w.heap.size w w' := by
  have C := Lib.hid (contains1_calls i r c st d b l H oa cap ((w.alloc (.cells (itC i r c st d) 49)).alloc (.cells #[.bool b] 4)) ((hL.atAlloc _).atAlloc _) w.heap.size (w.heap.size + 1) ((Has.new w _ _).alloc _) ((Own.newAt _ _ _ (by simp)).has))
  clear H hL
  go_enter Tryz.func143, Tryz.ntmps143
  go_wp2_with (go_at_call 166; refine C.out.mono ?_; rintro e w' ⟨rfl, hb⟩)
  go_ret
  exact ⟨rfl, below_new (below_new hb)⟩
end Go.Proofs.YtjkcooakddlppaaGreat
/- Which items a filter has: the code's Has, walked. -/
namespace Go.Proofs.YtjkcooakddlppaaGreat
set_option linter.unusedVariables false
set_option linter.unusedSimpArgs false
set_option maxRecDepth 100000
open Go.RowKit
theorem all_any (i : It) (l : List Pr) : Pr.hasAll i l = !(l.any fun k => k.hasB i == false) := by
  induction l with
  | nil => simp [Pr.hasAll]
  | cons a l ih => simp only [Pr.hasAll, ih, List.any_cons, Bool.not_or]; cases Pr.hasB i a <;> simp
theorem any_any (i : It) (l : List Pr) : Pr.hasAny i l = l.any fun k => k.hasB i == true := by
  induction l with
  | nil => simp [Pr.hasAny]
  | cons a l ih => simp only [Pr.hasAny, ih, List.any_cons]; cases Pr.hasB i a <;> simp
set_option maxRecDepth 100000 in
set_option maxHeartbeats 4000000 in
theorem has_calls (i : It) (r c st : Int) (d : Bool) (hid : i.id.size ≤ maxLen) (p : Pr) : HasFn i r c st d p := by
  induction p using Pr.ind with
  | h op t n x y kids ih =>
    intro v w hL
    obtain ⟨oa, cap, b, o, V, rfl, ht, hl, hc, hn, hcell, hrec⟩ := lies_slice hL
    have LK0 := lies_kids hL
    simp only [Pr.kids_node, Pr.text_node, Pr.op_node, Pr.n_node, Pr.x_node, Pr.y_node] at *
    unfold maxLen at hc
    have SM := fun b w' h => Lib.hid (some_calls i r c st d b kids ih oa cap w' h)
    have LL := fun a a' => Lib.hid ((LK0.atAlloc a).atAlloc a')
    have HC := Lib.hid hcell
    have HR := Lib.hid hrec
    have HN := Lib.hid hn
    have HI := Lib.hid ih
    have HT := Lib.hid ht
    have HID := Lib.hid hid
    clear hL LK0 hcell hrec hn ih ht hid
    have HAll := Lib.hid (all_any i kids)
    have HAny := Lib.hid (any_any i kids)
    generalize hlen : kids.length = len at *
    have HLEN := Lib.hid hlen
    clear hlen
    generalize hres : Pr.hasB i (.node op t n x y kids) = res
    have HRES := Lib.hid hres
    clear hres
    have BE := fun (a a' : Obj) => Lib.hid (((Below.refl w.heap.size w).alloc (Nat.le_refl _) a).alloc (by simp) a')
    have hop : op = 1 ∨ op = 3 ∨ op = 4 ∨ op = 5 ∨ op = 6 ∨ op = 7 ∨ op = 8 ∨ op = 9 ∨ op = 10 ∨ (op ≠ 1 ∧ op ≠ 3 ∧ op ≠ 4 ∧ op ≠ 5 ∧ op ≠ 6 ∧ op ≠ 7 ∧ op ≠ 8 ∧ op ≠ 9 ∧ op ≠ 10) := by omega
    rcases hop with rfl | rfl | rfl | rfl | rfl | rfl | rfl | rfl | rfl | ⟨n1, n3, n4, n5, n6, n7, n8, n9, n10⟩
    · have E := Lib.hid (show res = true by rw [← HRES.out]; simp [Pr.hasB])
      go_enter Tryz.func93, Tryz.ntmps93
      go_wp2_with fail
      go_ret
      exact ⟨ret_bool E.out.symm, (BE _ _).out⟩
    · have E := Lib.hid (show res = decide (i.kd.toList = t.toList) by rw [← HRES.out]; simp [Pr.hasB])
      go_enter Tryz.func93, Tryz.ntmps93
      go_wp2_with fail
      all_goals
        go_ret
        exact ⟨ret_bool (by rw [E.out]; first | done | (rw [Bool.eq_iff_iff]; simp; done) | (simp_all; done)), (BE _ _).out⟩
    · have E := Lib.hid (show res = begB i.id t by rw [← HRES.out]; simp [Pr.hasB])
      have C := fun w => Lib.hid (prefix_calls i.id t w HID.out HT.out)
      go_enter Tryz.func93, Tryz.ntmps93
      go_wp2_with (go_at_call 141; refine (C _).out.mono ?_; rintro e w' ⟨rfl, rfl⟩)
      go_ret
      exact ⟨ret_bool E.out.symm, (BE _ _).out⟩
    · have E := Lib.hid (show res = decide (i.num < n) by rw [← HRES.out]; simp [Pr.hasB])
      go_enter Tryz.func93, Tryz.ntmps93
      go_wp2_with fail
      all_goals
        go_ret
        exact ⟨ret_bool (by rw [E.out]; first | done | (rw [Bool.eq_iff_iff]; simp; done) | (simp_all; done)), (BE _ _).out⟩
    · have E := Lib.hid (show res = decide (n ≤ i.num) by rw [← HRES.out]; simp [Pr.hasB])
      go_enter Tryz.func93, Tryz.ntmps93
      go_wp2_with fail
      all_goals
        go_ret
        exact ⟨ret_bool (by rw [E.out]; first | done | (rw [Bool.eq_iff_iff]; simp; done) | (simp_all; done)), (BE _ _).out⟩
    · have E := Lib.hid (show res = nearB i.ax i.ay x y n by rw [← HRES.out]; simp [Pr.hasB])
      have C := fun w => Lib.hid (near_calls i.ax i.ay x y n w)
      generalize nearB i.ax i.ay x y n = fv at *
      go_enter Tryz.func93, Tryz.ntmps93
      go_wp2_with (go_at_call 142; refine (C _).out.mono ?_; rintro e w' ⟨rfl, rfl⟩)
      go_ret
      exact ⟨ret_bool E.out.symm, (BE _ _).out⟩
    · have E := Lib.hid (show res = !(kids.any fun k => k.hasB i == false) by rw [← HRES.out, ← HAll.out]; simp [Pr.hasB])
      go_enter Tryz.func93, Tryz.ntmps93
      go_wp2_with (go_at_call 143; refine (SM _ _ (LL _ _).out).out.mono ?_; rintro e w' ⟨rfl, hb⟩)
      go_ret
      exact ⟨ret_bool (by rw [E.out]; simp), below_new (below_new hb)⟩
    · have E := Lib.hid (show res = (kids.any fun k => k.hasB i == true) by rw [← HRES.out, ← HAny.out]; simp [Pr.hasB])
      go_enter Tryz.func93, Tryz.ntmps93
      go_wp2_with (go_at_call 143; refine (SM _ _ (LL _ _).out).out.mono ?_; rintro e w' ⟨rfl, hb⟩)
      go_ret
      exact ⟨ret_bool (by rw [E.out]; simp), below_new (below_new hb)⟩
    · by_cases h0 : len = 0
      · subst h0
        have E := Lib.hid (show res = false by rw [← HRES.out, List.length_eq_zero_iff.1 HLEN.out]; simp [Pr.hasB, Pr.hasNot])
        have G1 := Lib.hid ((Has.new w #[.int .i64 10, .string t, .int .i64 n, .complex .f64 x y, .slice oa 0 cap] 43).alloc (.cells (itC i r c st d) 49))
        have G2 := Lib.hid ((Own.newAt (w.alloc (.cells #[.int .i64 10, .string t, .int .i64 n, .complex .f64 x y, .slice oa 0 cap] 43)) (itC i r c st d) 49 (b := w.heap.size + 1) (by simp)).has)
        have LA := fun dd os o => G1.out.regrown dd os o
        have LB := fun dd os o => G2.out.regrown dd os o
        have l1 := G1.out.cell
        go_enter Tryz.func93, Tryz.ntmps93
        go_wp2_with fail
        refine wp_region_quiet_below (by kernel_rfl) (by kernel_rfl) ?_
        repeat (first | go_big_quiet_step (fail) | quiet_step (fail))
        refine wpQuiet_nil ?_
        intro w7 hw'
        have hb' := Lib.hid (regrown_below hw')
        clear hw'
        go_wp2_with fail
        go_ret
        exact ⟨ret_bool E.out.symm, below_new (below_new hb'.out)⟩
      · obtain ⟨q, hq⟩ : ∃ q, kids[0]? = some q := ⟨_, List.getElem?_eq_getElem (by rw [HLEN.out]; omega)⟩
        obtain ⟨rfl, hB⟩ := HN.out (by omega)
        obtain ⟨oq, cq, hV⟩ := lies_val (HR.out 0 q hq)
        have hbw : Below w.heap.size w ((w.alloc (.cells #[.int .i64 10, .string t, .int .i64 n, .complex .f64 x y, .slice (some ⟨b, o, none⟩) len cap] 43)).alloc (.cells (itC i r c st d) 49)) := (BE _ _).out
        obtain ⟨c0, c1, c2, c3, c4⟩ := pc_cells (w := ((w.alloc (.cells #[.int .i64 10, .string t, .int .i64 n, .complex .f64 x y, .slice (some ⟨b, o, none⟩) len cap] 43)).alloc (.cells (itC i r c st d) 49))) (fun j u hu => (hbw.cell (p := ⟨b, o + 0 * 5 + j, none⟩) hB).trans (HC.out 0 q hq j u hu))
        have L0 := (HR.out 0 q hq).later hbw (Nat.le_refl _)
        rw [hV] at c4 L0
        have CC := fun dd os => HI.out q (List.mem_of_getElem? hq) (.slice oq q.kids.length cq) (Sort.grow (redrawn ((w.alloc (.cells #[.int .i64 10, .string t, .int .i64 n, .complex .f64 x y, .slice (some ⟨b, o, none⟩) len cap] 43)).alloc (.cells (itC i r c st d) 49)) dd) os) (L0.later (below_regrown _ _ _) (Nat.le_refl _))
        have r0 := fun dd os => cell_regrown c0 dd os
        have r1 := fun dd os => cell_regrown c1 dd os
        have r2 := fun dd os => cell_regrown c2 dd os
        have r3 := fun dd os => cell_regrown c3 dd os
        have r4 := fun dd os => cell_regrown c4 dd os
        have G1 := Lib.hid ((Has.new w #[.int .i64 10, .string t, .int .i64 n, .complex .f64 x y, .slice (some ⟨b, o, none⟩) len cap] 43).alloc (.cells (itC i r c st d) 49))
        have G2 := Lib.hid ((Own.newAt (w.alloc (.cells #[.int .i64 10, .string t, .int .i64 n, .complex .f64 x y, .slice (some ⟨b, o, none⟩) len cap] 43)) (itC i r c st d) 49 (b := w.heap.size + 1) (by simp)).has)
        have LA := fun dd os o => G1.out.regrown dd os o
        have LB := fun dd os o => G2.out.regrown dd os o
        have l1 := G1.out.cell
        have E := Lib.hid (show res = !(Pr.hasB i q) by
          rw [← HRES.out]
          match kids, hq with
          | a :: l, hq => simp at hq; subst hq; simp [Pr.hasB, Pr.hasNot])
        have m3 := fun dd os => Lib.hid (Calls.regrown_of (CC dd os))
        have hk0 : (0 : Int) < (len : Int) := by omega
        have hk1 : 0 < len := by omega
        have hk2 : decide (0 < len) = true := by simp; omega
        have hk3 : decide ((0 : Int) < (len : Int)) = true := by simp; omega
        generalize Pr.hasB i q = rq at *
        clear hV L0 hq CC hbw
        simp only [Nat.zero_mul, Nat.add_zero] at r0 r1 r2 r3 r4
        go_enter Tryz.func93, Tryz.ntmps93
        go_wp2_with fail
        refine wp_region_quiet_below (by kernel_rfl) (by kernel_rfl) ?_
        repeat (first | go_big_quiet_step ((with_reducible exact (m3 _ _).out)) | quiet_step (with_reducible exact (m3 _ _).out))
        refine wpQuiet_nil ?_
        intro w7 hw'
        have hb' := Lib.hid (regrown_below hw')
        clear hw' m3 r0 r1 r2 r3 r4 LA LB
        go_wp2_with fail
        go_ret
        exact ⟨ret_bool E.out.symm, below_new (below_new hb'.out)⟩
    · have E := Lib.hid (show res = false by rw [← HRES.out]; simp [Pr.hasB, n1, n3, n4, n5, n6, n7, n8, n9, n10])
      go_enter Tryz.func93, Tryz.ntmps93
      go_wp2_with fail
      go_ret
      exact ⟨ret_bool E.out.symm, (BE _ _).out⟩
end Go.Proofs.YtjkcooakddlppaaGreat
/- The code's list.Both. Walked. -/
namespace Go.Proofs.YtjkcooakddlppaaGreat
set_option linter.unusedVariables false
set_option linter.unusedSimpArgs false
set_option maxRecDepth 100000
open Go.RowKit
def lenV : Value → Nat
  | .slice _ n _ => n
  | _ => 0
theorem cmpV_cases (st r c st' r' c' : Int) : cmpV st r c st' r' c' = -1 ∨ cmpV st r c st' r' c' = 0 ∨ cmpV st r c st' r' c' = 1 := by
  unfold cmpV orI cmpI
  repeat' split
  all_goals simp
theorem beh_pos (a b : Itm) : decide (0 < cmpT a b) = behT a b := by
  unfold behT cmpT
  rcases cmpV_cases a.st a.r a.c b.st b.r b.c with h | h | h <;> rw [h] <;> decide
theorem cmpT_calls (a b : Itm) (w : World) :
    Calls Tryz.prog 41 #[iV a, iV b] w fun e w' => e = .returned (.int .i64 (cmpT a b)) ∧ Below w.heap.size w w' :=
  compare_calls a.id a.r a.c a.st a.kd a.num a.x a.y a.d b.id b.r b.c b.st b.kd b.num b.x b.y b.d w
abbrev At8 (w : World) (b o : Nat) (i : Itm) : Prop :=
  w.cell? ⟨b, o, none⟩ = some (.string i.id) ∧ w.cell? ⟨b, o + 1, none⟩ = some (.int .i64 i.r) ∧ w.cell? ⟨b, o + 2, none⟩ = some (.int .i64 i.c) ∧ w.cell? ⟨b, o + 3, none⟩ = some (.int .i64 i.st) ∧ w.cell? ⟨b, o + 4, none⟩ = some (.string i.kd) ∧ w.cell? ⟨b, o + 5, none⟩ = some (.int .i64 i.num) ∧ w.cell? ⟨b, o + 6, none⟩ = some (.complex .f64 i.x i.y) ∧ w.cell? ⟨b, o + 7, none⟩ = some (.bool i.d)
theorem At8.later {w w' : World} {b o : Nat} {i : Itm} (h : At8 w b o i) (hlt : b < w.heap.size) (hb : Below w.heap.size w w') : At8 w' b o i := by
  obtain ⟨h0, h1, h2, h3, h4, h5, h6, h7⟩ := h
  have e : ∀ j, w'.cell? ⟨b, j, none⟩ = w.cell? ⟨b, j, none⟩ := fun j => hb.cell (p := ⟨b, j, none⟩) hlt
  exact ⟨(e _).trans h0, (e _).trans h1, (e _).trans h2, (e _).trans h3, (e _).trans h4, (e _).trans h5, (e _).trans h6, (e _).trans h7⟩
theorem row_head {w : World} {i : Itm} {l : List Itm} {v : Value} (h : Row 8 ic w (i :: l) v) : ∃ b o cap, v = .slice (some ⟨b, o, none⟩) (l.length + 1) cap ∧ l.length + 1 ≤ cap ∧ cap ≤ maxLen ∧ b < w.heap.size ∧ At8 w b o i ∧ Row 8 ic w (i :: l) (.slice (some ⟨b, o, none⟩) (l.length + 1) cap) := by
  have h' := h
  obtain ⟨oa, cap, b, o, rfl, h⟩ := h
  obtain ⟨rfl, hb⟩ := h.at0 (by simp)
  refine ⟨b, o, cap, rfl, h.len, h.max, hb, ?_, h'⟩
  have := ic_cells (w := w) (fun j u hu => h.cell 0 i rfl j u hu)
  simpa using this
theorem row_tail {w : World} {i : Itm} {l : List Itm} {b o n cap : Nat} (h : Row 8 ic w (i :: l) (.slice (some ⟨b, o, none⟩) n cap)) (hn : n = l.length + 1) : Row 8 ic w l (.slice (some ⟨b, o + 8, none⟩) l.length (cap - 1)) := by
  have := h.slice 1 (by simp)
  subst hn
  simpa [add_none] using this
theorem row_last {w : World} {i : Itm} {l : List Itm} {b o n cap : Nat} (h : Row 8 ic w (i :: l) (.slice (some ⟨b, o, none⟩) n cap)) (hn : n = l.length + 1) (hc : cap = 1) : Row 8 ic w l (.slice (some ⟨b, o, none⟩) l.length 0) := by
  subst hn hc
  have e := h.none
  have : l.length = 0 := by
    obtain ⟨_, _, _, _, e2, h2⟩ := h
    cases e2
    have := h2.len; simp at this; rw [this]; rfl
  rw [this]
  simpa using e
structure BothI (f : Itm → Itm → Bool) (w : World) (R la lb D : List Itm) (wr : World) (v : Value) : Prop where
  own : OwnI wr w.heap.size D v
  eq : D ++ mrgI f la lb = R
  len : la.length + lb.length + D.length ≤ 2000
  bel : Below w.heap.size w wr
def BothLR (f : Itm → Itm → Bool) (w : World) (R : List Itm) (a b v : Value) (wr : World) : Prop :=
  ∃ la lb D : List Itm, Row 8 ic w la a ∧ Row 8 ic w lb b ∧ Hid (BothI f w R la lb D wr v)
theorem row_rest {w : World} {i : Itm} {l : List Itm} {b o n cap : Nat} (h : Row 8 ic w (i :: l) (.slice (some ⟨b, o, none⟩) n cap)) (hn : n = l.length + 1) : Row 8 ic w l (.slice (if cap = 1 then some ⟨b, o, none⟩ else some ⟨b, o + 8, none⟩) l.length (cap - 1)) := by
  split
  · rename_i hc
    have := row_last h hn hc
    rw [show cap - 1 = 0 by omega]
    exact this
  · exact row_tail h hn
theorem bothI_next {f : Itm → Itm → Bool} {w w1 w2 : World} {R la lb la0 lb0 D : List Itm} {v v1 : Value} {Z : Itm} (hI : BothI f w R la0 lb0 D w1 v) (ho : OwnI w2 w.heap.size (D ++ [Z]) v1) (hb : Below w.heap.size w w2) (he : mrgI f la0 lb0 = Z :: mrgI f la lb) (hl : la.length + lb.length + 1 ≤ la0.length + lb0.length) : BothI f w R la lb (D ++ [Z]) w2 v1 :=
  ⟨ho, by rw [List.append_assoc, ← hI.eq, he]; rfl, by have := hI.len; rw [List.length_append]; simp only [List.length_cons, List.length_nil]; omega, hb⟩
set_option maxRecDepth 100000 in
set_option maxHeartbeats 16000000 in
theorem listBoth_calls (l m : List Itm) (v v' : Value) (w : World) (hR : Row 8 ic w l v) (hM : Row 8 ic w m v') (hr : RiseI l) (hm : RiseI m) (h1 : l.length ≤ 1000) (h2 : m.length ≤ 1000) :
    Calls Tryz.prog 39 #[v, v'] w fun e w' => ∃ v2, e = .returned v2 ∧ Row 8 ic w' (bothI behT l m) v2 ∧ Below w.heap.size w w' := by
  obtain ⟨i0, hi, hz0, hz1, hz2⟩ := info_parts info_item
  have CS := fun a b w => Lib.hid (cmpS_calls a b w)
  have CT := fun a b w => Lib.hid (cmpT_calls a b w)
  have HA := Lib.hid hR
  have HB := Lib.hid hM
  have HO := Lib.hid (show ∀ i ∈ mrgI behT l m, i.id.size ≤ maxLen ∧ i.kd.size ≤ maxLen from fun i hi => by
    rcases mrg_mem (Nat.le_refl _) hi with h | h
    · exact hR.oks i h
    · exact hM.oks i h)
  rw [← mrg_both hr hm]
  obtain ⟨oa, cap, rfl⟩ := hR.val
  obtain ⟨oa', cap', rfl⟩ := hM.val
  obtain ⟨w', hrun, hown, hgr⟩ := run_makeSlice_owned (P := Tryz.prog) w w.heap.size 44 49 i0 _ 8 Tryz.underlying44 hi hz0 hz1 .i64 .i64 (l.length + m.length) (by omega) (by rw [hz2]; omega) (by unfold maxLen; omega) (Nat.le_refl _)
  rw [Int.natCast_add] at hrun
  have HI := Lib.hid (show BothI behT w (mrgI behT l m) l m [] w' _ from ⟨hown, rfl, by simp; omega, (Below.refl _ _).grown hgr (Nat.le_refl _) (fun k hk => by cases hk)⟩)
  clear hown hgr hR hM hr hm
  generalize mrgI behT l m = R at *
  go_enter Tryz.func39, Tryz.ntmps39
  go_wp2_with fail
  go_loopw [0, 1, 5] (fun a b v wr => BothLR behT w R a b v wr) (fun a b _ _ => lenV a + lenV b)
  case atStart => exact ⟨l, m, [], HA.out, HB.out, HI.out⟩
  case round =>
    clear HI HA HB hrun
    obtain ⟨la, lb, D, ha, hb, HI⟩ := hrel
    obtain ⟨ov, cv, e⟩ := HI.out.own.len
    subst e
    by_cases hex : la = [] ∨ lb = []
    · have E := Lib.hid (show (D ++ la) ++ lb = R by
        have := HI.out.eq
        rcases hex with h | h
        · subst h; rw [mrg_nil_l] at this; simpa using this
        · subst h; rw [mrg_nil_r] at this; simpa using this)
      obtain ⟨oA, cA, rfl⟩ := ha.val
      obtain ⟨oB, cB, rfl⟩ := hb.val
      have HL := Lib.hid HI.out.len
      have RA := Lib.hid ha
      have RB := Lib.hid hb
      obtain ⟨DE, hDE⟩ : ∃ DE, DE = D ++ la := ⟨_, rfl⟩
      have HDL := Lib.hid (show DE.length + lb.length ≤ 2000 by rw [hDE, List.length_append]; have := HL.out; omega)
      have HAP := Lib.hid (fun ty => run_append_items ty HI.out.own (RA.out.later HI.out.bel) (by have := HL.out; omega) HI.out.bel.size)
      rw [← hDE] at HAP E
      clear hDE HL
      have hlen : la.length = 0 ∨ lb.length = 0 := by
        rcases hex with h | h
        · subst h; exact .inl rfl
        · subst h; exact .inr rfl
      clear hex ha hb
      generalize hna : la.length = na at *
      generalize hnb : lb.length = nb at *
      have HNB := Lib.hid hnb
      clear hna hnb
      by_cases hz : na = 0
      · subst hz
        clear hlen
        go_wp2_with (first
          | (at_builtin; obtain ⟨v1, w1, hrun, hown, hgr⟩ := HAP.out _; refine Lib.wpList_append_run _ rfl _ _ _ _ rfl _ _ rfl rfl _ _ hrun ?_; have B1 := Lib.hid (below_push HI.out.own HI.out.bel (Nat.le_refl _) hgr HI.out.bel.size); have HBP := Lib.hid (fun ty => run_append_items ty hown (RB.out.later B1.out) (by have := HDL.out; have := HNB.out; omega) B1.out.size); have HW := Lib.hid hown; obtain ⟨o1, c1, rfl⟩ := hown.len; clear HAP hgr hown)
          | (at_builtin; obtain ⟨v2, w2, hrun2, hown2, hgr2⟩ := HBP.out _; refine Lib.wpList_append_run _ rfl _ _ _ _ rfl _ _ rfl rfl _ _ hrun2 ?_))
        go_ret
        exact ⟨_, rfl, by rw [E.out] at hown2; exact hown2.row HO.out, below_push HW.out B1.out (Nat.le_refl _) hgr2 B1.out.size⟩
      · have hz2 : nb = 0 := by omega
        subst hz2
        have g1 : (0 : Int) < (na : Int) := by omega
        clear hlen
        go_wp2_with (first
          | (at_builtin; obtain ⟨v1, w1, hrun, hown, hgr⟩ := HAP.out _; refine Lib.wpList_append_run _ rfl _ _ _ _ rfl _ _ rfl rfl _ _ hrun ?_; have B1 := Lib.hid (below_push HI.out.own HI.out.bel (Nat.le_refl _) hgr HI.out.bel.size); have HBP := Lib.hid (fun ty => run_append_items ty hown (RB.out.later B1.out) (by have := HDL.out; have := HNB.out; omega) B1.out.size); have HW := Lib.hid hown; obtain ⟨o1, c1, rfl⟩ := hown.len; clear HAP hgr hown)
          | (at_builtin; obtain ⟨v2, w2, hrun2, hown2, hgr2⟩ := HBP.out _; refine Lib.wpList_append_run _ rfl _ _ _ _ rfl _ _ rfl rfl _ _ hrun2 ?_))
        go_ret
        exact ⟨_, rfl, by rw [E.out] at hown2; exact hown2.row HO.out, below_push HW.out B1.out (Nat.le_refl _) hgr2 B1.out.size⟩
    · obtain ⟨x, la, rfl⟩ : ∃ x l', la = x :: l' := by
        cases la with
        | nil => exact absurd (.inl rfl) hex
        | cons x l' => exact ⟨x, l', rfl⟩
      obtain ⟨y, lb, rfl⟩ : ∃ y l', lb = y :: l' := by
        cases lb with
        | nil => exact absurd (.inr rfl) hex
        | cons y l' => exact ⟨y, l', rfl⟩
      clear hex
      have OKx := Lib.hid (ha.oks x (by simp))
      have OKy := Lib.hid (hb.oks y (by simp))
      obtain ⟨ba, oA, ca, rfl, ka1, ka2, ka3, ka4, ka5⟩ := row_head ha
      obtain ⟨bb, oB, cb, rfl, kb1, kb2, kb3, kb4, kb5⟩ := row_head hb
      have RA := Lib.hid ka5
      have RB := Lib.hid kb5
      clear ha hb ka5 kb5
      have bel := HI.out.bel
      have za := Nat.lt_of_lt_of_le ka3 bel.size
      have zb := Nat.lt_of_lt_of_le kb3 bel.size
      have KA := Lib.hid (ka4.later ka3 bel)
      have KB := Lib.hid (kb4.later kb3 bel)
      clear bel ka4 kb4
      go_upto_region 3 with fail
      go_cut [6, 7] (fun s6 s7 wx => ∃ bx bz, s6 = .pointer (some ⟨bx, 0, none⟩) ∧ s7 = .pointer (some ⟨bz, 0, none⟩) ∧ wr.heap.size ≤ bx ∧ bx ≠ bz ∧ Hid (Own wx bx (iA x) 49 ∧ Own wx bz (iA y) 49 ∧ Below wr.heap.size wr wx))
      case first =>
        go_region_held3 (fun w' => At8 w' ba oA x ∧ At8 w' bb oB y) (first | with_reducible exact ⟨KA.out, KB.out⟩ | (refine ⟨At8.later KA.out za ?_, At8.later KB.out zb ?_⟩ <;> (repeat (first | exact Below.refl _ _ | refine Below.drew ?_ | refine Below.alloc ?_ (by simp) _ | refine Below.setCell ?_ (by simp) _)))) (fail)
        all_goals (go_wp2_with fail)
        all_goals go_meet
        · exact ⟨_, _, rfl, rfl, Nat.le_refl _, by omega, ((Own.new wr (iA x) 49).alloc _).drew, (Own.newAt (wr.alloc (.cells (iA x) 49)) (iA y) 49 (by simp)).drew, (((Below.refl _ _).alloc (Nat.le_refl _) _).alloc (by simp) _).drew⟩
        · exact ⟨_, _, rfl, rfl, by omega, by omega, (Own.newAt (wr.alloc (.cells (iA y) 49)) (iA x) 49 (by simp)).drew, ((Own.new wr (iA y) 49).alloc _).drew, (((Below.refl _ _).alloc (Nat.le_refl _) _).alloc (by simp) _).drew⟩
      case rest =>
        clear KA KB
        obtain ⟨bx, bz, rfl, rfl, KX, KN, HC⟩ := hcut
        generalize wc = wq at *
        have OX := Lib.hid HC.out.1
        have OY := Lib.hid HC.out.2.1
        have BW := Lib.hid HC.out.2.2
        have HNE := Lib.hid KN
        have lX := OX.out.cell
        have zX := OX.out.lt
        have lY := OY.out.cell
        have zY := OY.out.lt
        have fX := OX.out.free
        have gA : (1 : Int) ≤ ((la.length + 1 : Nat) : Int) := by omega
        have gB : (1 : Int) ≤ ((lb.length + 1 : Nat) : Int) := by omega
        clear HC KN
        rcases ls_tri x.id y.id with h | h | h
        · have C := Lib.hid (show cmpS x.id y.id = -1 by unfold cmpS; rw [if_pos h])
          have EQ := Lib.hid (show mrgI behT (x :: la) (y :: lb) = x :: mrgI behT la (y :: lb) by rw [mrg_cons, if_pos h])
          clear h
          go_upto_region 11 with (go_at_call 88; refine (CS _ _ _).out.mono ?_; rintro e w5 ⟨rfl, rfl⟩; rw [C.out])
          all_goals
            have HI2 := Lib.hid (HI.out.own.later BW.out)
            have BEL2 := Lib.hid (HI.out.bel.trans (BW.out.mono HI.out.bel.size))
            have OQ := Lib.hid (HI2.out.alloc (.cells (iA x) 49))
            have BQ := Lib.hid (BEL2.out.alloc BEL2.out.size (.cells (iA x) 49))
            have HAP := Lib.hid (fun ty => run_append_items ty OQ.out (row_oneI wq x 49 OKx.out) (by have := HI.out.len; simp only [List.length_cons, List.length_nil] at *; omega) BQ.out.size)
            go_wp2_with (at_builtin; obtain ⟨v1, w1, hrun, hown, hgr⟩ := HAP.out _; refine Lib.wpList_append_run _ rfl _ _ _ _ rfl _ _ rfl rfl _ _ hrun ?_)
            have HB2 := Lib.hid (below_push OQ.out BQ.out (Nat.le_refl _) hgr BQ.out.size)
            go_roundw
            case rel => exact ⟨la, y :: lb, D ++ [x], by exact row_rest RA.out rfl, RB.out, Lib.hid (bothI_next HI.out hown HB2.out EQ.out (by simp only [List.length_cons]; omega))⟩
            case measure => simp [lenV]
        · have C := Lib.hid (show cmpS x.id y.id = 0 by unfold cmpS; rw [h, ls_irr]; rfl)
          have hm2 : mrgI behT (x :: la) (y :: lb) = (if behT y x = true then y else x) :: mrgI behT la lb := by rw [mrg_cons, h, ls_irr]; simp
          cases hbh : behT y x
          · have EQ := Lib.hid (show mrgI behT (x :: la) (y :: lb) = x :: mrgI behT la lb by rw [hm2, hbh]; rfl)
            have g9 : decide (0 < cmpT y x) = false := by rw [beh_pos]; exact hbh
            clear h hm2 hbh
            go_upto_region 11 with (first | (go_at_call 88; refine (CS _ _ _).out.mono ?_; rintro e w5 ⟨rfl, rfl⟩; rw [C.out]) | (go_at_call 41; refine (CT _ _ _).out.mono ?_; rintro e w6 ⟨rfl, hb6⟩; replace OX := Lib.hid (OX.out.later hb6); replace OY := Lib.hid (OY.out.later hb6); replace BW := Lib.hid (BW.out.trans (hb6.mono BW.out.size)); have l6 := OX.out.cell; have z6 := OX.out.lt; clear hb6))
            all_goals
              have HI2 := Lib.hid (HI.out.own.later BW.out)
              have BEL2 := Lib.hid (HI.out.bel.trans (BW.out.mono HI.out.bel.size))
              have OQ := Lib.hid (HI2.out.alloc (.cells (iA x) 49))
              have BQ := Lib.hid (BEL2.out.alloc BEL2.out.size (.cells (iA x) 49))
              have HAP := Lib.hid (fun ty => run_append_items ty OQ.out (row_oneI w6 x 49 OKx.out) (by have := HI.out.len; simp only [List.length_cons, List.length_nil] at *; omega) BQ.out.size)
              go_wp2_with (at_builtin; obtain ⟨v1, w1, hrun, hown, hgr⟩ := HAP.out _; refine Lib.wpList_append_run _ rfl _ _ _ _ rfl _ _ rfl rfl _ _ hrun ?_)
              have HB2 := Lib.hid (below_push OQ.out BQ.out (Nat.le_refl _) hgr BQ.out.size)
              go_roundw
              case rel => exact ⟨la, lb, D ++ [x], by exact row_rest RA.out rfl, by exact row_rest RB.out rfl, Lib.hid (bothI_next HI.out hown HB2.out EQ.out (by simp only [List.length_cons]; omega))⟩
              case measure => simp [lenV]; omega
          · have EQ := Lib.hid (show mrgI behT (x :: la) (y :: lb) = y :: mrgI behT la lb by rw [hm2, hbh]; rfl)
            have g9 : decide (0 < cmpT y x) = true := by rw [beh_pos]; exact hbh
            clear h hm2 hbh
            go_upto_region 11 with (first | (go_at_call 88; refine (CS _ _ _).out.mono ?_; rintro e w5 ⟨rfl, rfl⟩; rw [C.out]) | (go_at_call 41; refine (CT _ _ _).out.mono ?_; rintro e w6 ⟨rfl, hb6⟩; replace OX := Lib.hid (OX.out.later hb6); replace OY := Lib.hid (OY.out.later hb6); replace BW := Lib.hid (BW.out.trans (hb6.mono BW.out.size)); have l6 := OX.out.cell; have z6 := OX.out.lt; have f6 := OX.out.free; have l7 := OY.out.cell; have z7 := OY.out.lt; clear hb6))
            all_goals
              have key := And.intro (st8_own OX.out (.string y.id) (.int .i64 y.r) (.int .i64 y.c) (.int .i64 y.st) (.string y.kd) (.int .i64 y.num) (.complex .f64 y.x y.y) (.bool y.d)) (st8_below (b := bx) BW.out KX (.string y.id) (.int .i64 y.r) (.int .i64 y.c) (.int .i64 y.st) (.string y.kd) (.int .i64 y.num) (.complex .f64 y.x y.y) (.bool y.d))
              unfold st8 at key
              revert key
              generalize World.setCell (World.setCell (World.setCell (World.setCell (World.setCell (World.setCell (World.setCell (World.setCell _ _ _) _ _) _ _) _ _) _ _) _ _) _ _) _ _ = WW
              rintro ⟨OX3, bw3⟩
              have HI2 := Lib.hid (HI.out.own.later bw3)
              have BEL2 := Lib.hid (HI.out.bel.trans (bw3.mono HI.out.bel.size))
              have l3 := OX3.cell
              have z3 := OX3.lt
              clear bw3 OX3
              have OQ := Lib.hid (HI2.out.alloc (.cells (iA y) 49))
              have BQ := Lib.hid (BEL2.out.alloc BEL2.out.size (.cells (iA y) 49))
              have HAP := Lib.hid (fun ty => run_append_items ty OQ.out (row_oneI WW y 49 OKy.out) (by have := HI.out.len; simp only [List.length_cons, List.length_nil] at *; omega) BQ.out.size)
              go_wp2_with (at_builtin; obtain ⟨v1, w1, hrun, hown, hgr⟩ := HAP.out _; refine Lib.wpList_append_run _ rfl _ _ _ _ rfl _ _ rfl rfl _ _ hrun ?_)
              have HB2 := Lib.hid (below_push OQ.out BQ.out (Nat.le_refl _) hgr BQ.out.size)
              go_roundw
              case rel => exact ⟨la, lb, D ++ [y], by exact row_rest RA.out rfl, by exact row_rest RB.out rfl, Lib.hid (bothI_next HI.out hown HB2.out EQ.out (by simp only [List.length_cons]; omega))⟩
              case measure => simp [lenV]; omega
        · have C := Lib.hid (show cmpS x.id y.id = 1 by unfold cmpS; rw [ls_asym h, h]; rfl)
          have EQ := Lib.hid (show mrgI behT (x :: la) (y :: lb) = y :: mrgI behT (x :: la) lb by rw [mrg_cons, ls_asym h, h]; simp)
          clear h
          go_upto_region 11 with (go_at_call 88; refine (CS _ _ _).out.mono ?_; rintro e w5 ⟨rfl, rfl⟩; rw [C.out])
          all_goals
            have key := And.intro (st8_own OX.out (.string y.id) (.int .i64 y.r) (.int .i64 y.c) (.int .i64 y.st) (.string y.kd) (.int .i64 y.num) (.complex .f64 y.x y.y) (.bool y.d)) (st8_below (b := bx) BW.out KX (.string y.id) (.int .i64 y.r) (.int .i64 y.c) (.int .i64 y.st) (.string y.kd) (.int .i64 y.num) (.complex .f64 y.x y.y) (.bool y.d))
            unfold st8 at key
            revert key
            generalize World.setCell (World.setCell (World.setCell (World.setCell (World.setCell (World.setCell (World.setCell (World.setCell _ _ _) _ _) _ _) _ _) _ _) _ _) _ _) _ _ = WW
            rintro ⟨OX3, bw3⟩
            have HI2 := Lib.hid (HI.out.own.later bw3)
            have BEL2 := Lib.hid (HI.out.bel.trans (bw3.mono HI.out.bel.size))
            have l3 := OX3.cell
            have z3 := OX3.lt
            clear bw3 OX3
            have OQ := Lib.hid (HI2.out.alloc (.cells (iA y) 49))
            have BQ := Lib.hid (BEL2.out.alloc BEL2.out.size (.cells (iA y) 49))
            have HAP := Lib.hid (fun ty => run_append_items ty OQ.out (row_oneI WW y 49 OKy.out) (by have := HI.out.len; simp only [List.length_cons, List.length_nil] at *; omega) BQ.out.size)
            go_wp2_with (at_builtin; obtain ⟨v1, w1, hrun, hown, hgr⟩ := HAP.out _; refine Lib.wpList_append_run _ rfl _ _ _ _ rfl _ _ rfl rfl _ _ hrun ?_)
            have HB2 := Lib.hid (below_push OQ.out BQ.out (Nat.le_refl _) hgr BQ.out.size)
            go_roundw
            case rel => exact ⟨x :: la, lb, D ++ [y], RA.out, by exact row_rest RB.out rfl, Lib.hid (bothI_next HI.out hown HB2.out EQ.out (by simp only [List.length_cons]; omega))⟩
            case measure => simp [lenV]
end Go.Proofs.YtjkcooakddlppaaGreat
/- Whether two filters are the same: the document's answer. -/
namespace Go.Proofs.YtjkcooakddlppaaGreat
set_option linter.unusedVariables false
set_option linter.unusedSimpArgs false
set_option maxRecDepth 100000
open Go.RowKit
def RefSameFn (k : Pr) : Prop := ∀ (q : Pr) (v v' : Value) (w : World), LP w k v → LP w q v' →
    Calls Tryz.prog 51 #[.agg #[.int .i64 k.op, .string k.text, .int .i64 k.n, .complex .f64 k.x k.y, v], .agg #[.int .i64 q.op, .string q.text, .int .i64 q.n, .complex .f64 q.x q.y, v']] w fun e w' => e = .returned (.bool (Pr.same k q)) ∧ Below w.heap.size w w'
set_option maxRecDepth 100000 in
set_option maxHeartbeats 4000000 in
theorem refSame_any (p : Pr) : RefSameFn p := by
  induction p using Pr.ind with
  | h op t n x y l ih =>
    intro q v v' w hL hL'
    obtain ⟨op', t', n', x', y', m⟩ := q
    obtain ⟨oa, cap, b, o, V, rfl, _, hl, hc, hn, hcell, hrec⟩ := lies_slice hL
    obtain ⟨ob, cap', b', o', V', rfl, _, hl', hc', hn', hcell', hrec'⟩ := lies_slice hL'
    simp only [Pr.kids_node, Pr.text_node, Pr.op_node, Pr.n_node, Pr.x_node, Pr.y_node] at *
    unfold maxLen at hc hc'
    have HC := Lib.hid hcell
    have HR := Lib.hid hrec
    have HN := Lib.hid hn
    have HC' := Lib.hid hcell'
    have HR' := Lib.hid hrec'
    have HN' := Lib.hid hn'
    have HH := Lib.hid ih
    clear hL hcell hrec hn hL' hcell' hrec' hn' ih
    have f2 : Pr.same (.node op t n x y l) (.node op' t' n' x' y' m) = (decide (op = op') && (decide (t.toList = t'.toList) && (decide (n = n') && ((feq x x' && feq y y') && Pr.sames l m)))) := by simp [Pr.same]
    have HLen := Lib.hid (fun h => Pr.sames_not_len (l := l) (m := m) h)
    rw [f2]
    clear f2
    generalize hs : Pr.sames l m = sm
    have HSM := Lib.hid hs
    clear hs
    rw [HSM.out] at HLen
    generalize hla : l.length = la at *
    generalize hlb : m.length = lb at *
    have HLA := Lib.hid hla
    have HLB := Lib.hid hlb
    clear hla hlb
    by_cases e1 : ¬ op = op'
    · go_enter Tryz.func51, Tryz.ntmps51
      go_wp2_with fail
      go_ret
      exact ⟨ret_bool (by simp [e1]), ((Below.refl _ _).alloc (Nat.le_refl _) _).alloc (by simp) _⟩
    have e1 := Decidable.not_not.1 e1
    by_cases e2 : ¬ t.toList = t'.toList
    · subst e1
      go_enter Tryz.func51, Tryz.ntmps51
      go_wp2_with fail
      go_ret
      exact ⟨ret_bool (by simp [e2]), ((Below.refl _ _).alloc (Nat.le_refl _) _).alloc (by simp) _⟩
    have e2 := Decidable.not_not.1 e2
    by_cases e3 : ¬ n = n'
    · subst e1
      go_enter Tryz.func51, Tryz.ntmps51
      go_wp2_with fail
      go_ret
      exact ⟨ret_bool (by simp [e3]), ((Below.refl _ _).alloc (Nat.le_refl _) _).alloc (by simp) _⟩
    have e3 := Decidable.not_not.1 e3
    subst e1
    subst e3
    by_cases g4 : ¬ (FloatKind.f64.format.order x x' = some .eq)
    · have e4 : feq x x' = false := by simp [feq, g4]
      rw [e4]
      go_enter Tryz.func51, Tryz.ntmps51
      go_wp2_with fail
      go_ret
      exact ⟨ret_bool (by simp), ((Below.refl _ _).alloc (Nat.le_refl _) _).alloc (by simp) _⟩
    have g4 := Decidable.not_not.1 g4
    have e4 : feq x x' = true := by simp [feq, g4]
    rw [e4]
    by_cases g5 : ¬ (FloatKind.f64.format.order y y' = some .eq)
    · have e5 : feq y y' = false := by simp [feq, g5]
      rw [e5]
      go_enter Tryz.func51, Tryz.ntmps51
      go_wp2_with fail
      go_ret
      exact ⟨ret_bool (by simp), ((Below.refl _ _).alloc (Nat.le_refl _) _).alloc (by simp) _⟩
    have g5 := Decidable.not_not.1 g5
    have e5 : feq y y' = true := by simp [feq, g5]
    rw [e5]
    by_cases e6 : ¬ la = lb
    · have hz := HLen.out e6
      subst hz
      go_enter Tryz.func51, Tryz.ntmps51
      go_wp2_with fail
      go_ret
      exact ⟨ret_bool (by simp), ((Below.refl _ _).alloc (Nat.le_refl _) _).alloc (by simp) _⟩
    have e6 := Decidable.not_not.1 e6
    subst e6
    rw [decide_eq_true rfl, decide_eq_true e2, decide_eq_true rfl, Bool.true_and, Bool.true_and, Bool.true_and, Bool.true_and, Bool.true_and]
    go_enter Tryz.func51, Tryz.ntmps51
    go_wp2_with fail
    go_loopw [5] (fun i wr => EqRel l m la ((w.alloc (.cells #[.int .i64 op, .string t, .int .i64 n, .complex .f64 x y, .slice oa la cap] 43)).alloc (.cells #[.int .i64 op, .string t', .int .i64 n, .complex .f64 x' y', .slice ob la cap'] 43)) i wr) (fun i _ => la - (intOf i).toNat)
    case atStart => exact ⟨0, Nat.zero_le _, rfl, by simp [Hid, Pr.sames], Below.refl _ _⟩
    case round =>
      obtain ⟨k, hk, rfl, HS, hb⟩ := hrel
      have G1 := Lib.hid (((Has.new w #[.int .i64 op, .string t, .int .i64 n, .complex .f64 x y, .slice oa la cap] 43).alloc (.cells #[.int .i64 op, .string t', .int .i64 n, .complex .f64 x' y', .slice ob la cap'] 43)).below hb (by simp; omega))
      have G2 := Lib.hid ((Own.newAt (w.alloc (.cells #[.int .i64 op, .string t, .int .i64 n, .complex .f64 x y, .slice oa la cap] 43)) #[.int .i64 op, .string t', .int .i64 n, .complex .f64 x' y', .slice ob la cap'] 43 (b := w.heap.size + 1) (by simp)).has.below hb (by simp))
      by_cases hlt : k < la
      · obtain ⟨p, hp⟩ : ∃ p, l[k]? = some p := ⟨_, List.getElem?_eq_getElem (by rw [HLA.out]; exact hlt)⟩
        obtain ⟨q, hq⟩ : ∃ q, m[k]? = some q := ⟨_, List.getElem?_eq_getElem (by rw [HLB.out]; exact hlt)⟩
        obtain ⟨rfl, hB⟩ := HN.out (by omega)
        obtain ⟨rfl, hB'⟩ := HN'.out (by omega)
        obtain ⟨oq, cq, hV⟩ := lies_val (HR.out k p hp)
        obtain ⟨oq', cq', hV'⟩ := lies_val (HR'.out k q hq)
        have hbw : Below w.heap.size w wr := below_new (below_new hb)
        obtain ⟨c0, c1, c2, c3, c4⟩ := pc_cells (w := wr) (fun j u hu => (hbw.cell (p := ⟨b, o + k * 5 + j, none⟩) hB).trans (HC.out k p hp j u hu))
        obtain ⟨d0, d1, d2, d3, d4⟩ := pc_cells (w := wr) (fun j u hu => (hbw.cell (p := ⟨b', o' + k * 5 + j, none⟩) hB').trans (HC'.out k q hq j u hu))
        have L0 := (HR.out k p hp).later hbw (Nat.le_refl _)
        have M0 := (HR'.out k q hq).later hbw (Nat.le_refl _)
        rw [hV] at c4 L0
        rw [hV'] at d4 M0
        have CC := fun dd os => HH.out p (List.mem_of_getElem? hp) q (.slice oq p.kids.length cq) (.slice oq' q.kids.length cq') (Sort.grow (redrawn wr dd) os) (L0.later (below_regrown _ _ _) (Nat.le_refl _)) (M0.later (below_regrown _ _ _) (Nat.le_refl _))
        have HB := Lib.hid hb
        have HS0 := HS.out
        have r0 := fun dd os => cell_regrown c0 dd os
        have r1 := fun dd os => cell_regrown c1 dd os
        have r2 := fun dd os => cell_regrown c2 dd os
        have r3 := fun dd os => cell_regrown c3 dd os
        have r4 := fun dd os => cell_regrown c4 dd os
        have s0 := fun dd os => cell_regrown d0 dd os
        have s1 := fun dd os => cell_regrown d1 dd os
        have s2 := fun dd os => cell_regrown d2 dd os
        have s3 := fun dd os => cell_regrown d3 dd os
        have s4 := fun dd os => cell_regrown d4 dd os
        have LA := fun dd os o => G1.out.regrown dd os o
        have LB := fun dd os o => G2.out.regrown dd os o
        have l1 := G1.out.cell
        have l2 := G2.out.cell
        cases hs : Pr.same p q
        · have HF := Lib.hid (Pr.sames_at hp hq hs)
          rw [hs] at CC
          have m3 := fun dd os => Lib.hid (Calls.regrown_of (CC dd os))
          clear hb hV hV' L0 M0 HS0 hs hp hq CC hbw
          go_wp2_with fail
          refine wp_region_quiet_below (by kernel_rfl) (by kernel_rfl) ?_
          repeat (first | go_big_quiet_step ((with_reducible exact (m3 _ _).out)) | quiet_step (with_reducible exact (m3 _ _).out))
          refine wpQuiet_nil ?_
          intro w7 hw'
          have hb' := Lib.hid (regrown_below hw')
          clear hw' m3 r0 r1 r2 r3 r4 s0 s1 s2 s3 s4 LA LB
          go_wp2_with fail
          go_ret
          have HF := HF.out
          rw [HSM.out] at HF
          exact ⟨ret_bool HF.symm, below_new (below_new (HB.out.trans (hb'.out.mono HB.out.size)))⟩
        · have HF := Lib.hid (Pr.sames_take hp hq HS0 hs)
          rw [hs] at CC
          have m3 := fun dd os => Lib.hid (Calls.regrown_of (CC dd os))
          clear hb hV hV' L0 M0 HS0 hs hp hq CC hbw
          go_wp2_with fail
          refine wp_region_quiet_below (by kernel_rfl) (by kernel_rfl) ?_
          repeat (first | go_big_quiet_step ((with_reducible exact (m3 _ _).out)) | quiet_step (with_reducible exact (m3 _ _).out))
          refine wpQuiet_nil ?_
          intro w7 hw'
          have hb' := Lib.hid (regrown_below hw')
          clear hw' m3 r0 r1 r2 r3 r4 s0 s1 s2 s3 s4 LA LB
          go_wp2_with fail
          go_roundw
          case rel => exact ⟨k + 1, by omega, by go_num, HF.out, HB.out.trans (hb'.out.mono HB.out.size)⟩
          case measure => simp [intOf]; omega
      · have HB := Lib.hid hb
        clear hb
        have e : k = la := by omega
        have h7 := HS.out
        rw [Pr.take_all l (by rw [HLA.out]; omega), Pr.take_all m (by rw [HLB.out]; omega), HSM.out] at h7
        subst h7
        clear e
        have l1 := G1.out.cell
        have l2 := G2.out.cell
        have z1 := G1.out.lt
        have z2 := G2.out.lt
        go_wp2_with fail
        go_ret
        exact ⟨rfl, below_new (below_new HB.out)⟩
end Go.Proofs.YtjkcooakddlppaaGreat
