/- Joined: Has, OpenS, Open, PlainC, HasC. -/
import Derived.Test.YthbjgfennclidaaGreatJ10
import Derived.Test.YthbjgfennclidaaGreatJ14
import Derived.Test.YthbjgfennclidaaGreatJ01
import Derived.Test.YthbjgfennclidaaGreatJ15
import Derived.Test.YthbjgfennclidaaGreatJ17
import Derived.Deep.Slices
/- Which items a filter has: the code's walks. -/
namespace Go.Proofs.YthbjgfennclidaaGreat
set_option linter.unusedVariables false
set_option linter.unusedSimpArgs false
set_option maxRecDepth 100000
open Go.RowKit
/-! ### some -/
abbrev itV (i : It) (r c st : Int) (d : Bool) : Value := .agg #[.string i.id, .int .i64 r, .int .i64 c, .int .i64 st, .string i.kd, .int .i64 i.num, .complex .f64 i.ax i.ay, .bool d]
abbrev itC (i : It) (r c st : Int) (d : Bool) : Array Value := #[.string i.id, .int .i64 r, .int .i64 c, .int .i64 st, .string i.kd, .int .i64 i.num, .complex .f64 i.ax i.ay, .bool d]
def HasFn (i : It) (r c st : Int) (d : Bool) (k : Pr) : Prop := ∀ (v : Value) (w : World), LP w k v →
    Calls Tryz.prog 112 #[.agg #[.int .i64 k.op, .string k.text, .int .i64 k.n, .complex .f64 k.x k.y, v], itV i r c st d] w fun e w' => e = .returned (.bool (k.hasB i)) ∧ Below w.heap.size w w'
set_option maxHeartbeats 1000000 in
theorem some1_calls (i : It) (r c st : Int) (d b : Bool) (k : Pr) (H : HasFn i r c st d k) (v : Value) (w : World) (hL : LP w k v) (bx bh : Nat) (hx : Has w bx (itC i r c st d)) (hh : Has w bh #[.bool b]) :
    Calls Tryz.prog 206 #[.agg #[.int .i64 k.op, .string k.text, .int .i64 k.n, .complex .f64 k.x k.y, v], .pointer (some ⟨bx, 0, none⟩), .pointer (some ⟨bh, 0, none⟩)] w fun e w' => e = .returned (.bool (k.hasB i == b)) ∧ Below w.heap.size w w' := by
  obtain ⟨oq, cq, rfl⟩ := lies_val hL
  have CC := fun dd os o => H (.slice oq k.kids.length cq) (Sort.grow (redrawn (w.alloc o) dd) os) ((hL.atAlloc o).later (below_regrown _ _ _) (Nat.le_refl _))
  have m3 := fun dd os o => Lib.hid (Calls.regrown_of (CC dd os o))
  have G1 := Lib.hid (Has.new w #[.int .i64 k.op, .string k.text, .int .i64 k.n, .complex .f64 k.x k.y, .slice oq k.kids.length cq] 44)
  have l1 := G1.out.cell
  have LA := fun dd os o => G1.out.regrown dd os o
  have LB := fun dd os a o => (hx.alloc a).regrown dd os o
  have LC := fun dd os a o => (hh.alloc a).regrown dd os o
  have z1 := hx.lt
  have z2 := hh.lt
  generalize Pr.hasB i k = kb at *
  clear CC hL H hx hh
  go_enter Tryz.func206, Tryz.ntmps206
  go_wp2_with fail
  refine wp_region_quiet_below (by kernel_rfl) (by kernel_rfl) ?_
  repeat (first | go_big_quiet_step ((with_reducible exact (m3 _ _ _).out)) | quiet_step (with_reducible exact (m3 _ _ _).out))
  refine wpQuiet_nil ?_
  intro w7 hw'
  have hb' := Lib.hid (regrown_below hw')
  clear hw' m3 LA LB LC
  go_wp2_with fail
  go_ret
  exact ⟨rfl, below_new hb'.out⟩
def IxRel (P : Pr → Bool) (l : List Pr) (len : Nat) (w0 : World) (i : Value) (wr : World) : Prop :=
  ∃ k : Nat, k ≤ len ∧ i = .int .i64 k ∧ Hid ((l.take k).any P = false) ∧ Below w0.heap.size w0 wr
theorem any_step {P : Pr → Bool} {l : List Pr} {k : Nat} {q : Pr} (hq : l[k]? = some q) (h : (l.take k).any P = false) (hs : P q = false) : (l.take (k + 1)).any P = false := by
  rw [Pr.take_one hq, List.any_append, h]; simp [hs]
theorem any_hit {P : Pr → Bool} {l : List Pr} {k : Nat} {q : Pr} (hq : l[k]? = some q) (hs : P q = true) : l.any P = true := by
  rw [List.any_eq_true]; exact ⟨q, List.mem_of_getElem? hq, hs⟩
set_option maxHeartbeats 2000000 in
theorem index1_calls (i : It) (r c st : Int) (d b : Bool) (l : List Pr) (H : ∀ k ∈ l, HasFn i r c st d k) (oa : Option Addr) (cap : Nat) (w : World) (hL : LK w l (.slice oa l.length cap)) (bx bh : Nat) (hx : Has w bx (itC i r c st d)) (hh : Has w bh #[.bool b]) :
    Calls Tryz.prog 222 #[.slice oa l.length cap, .func (Fn.func 206) #[] #[.pointer (some ⟨bx, 0, none⟩), .pointer (some ⟨bh, 0, none⟩)]] w fun e w' =>
      ∃ n : Int, e = .returned (.int .i64 n) ∧ decide (0 ≤ n) = (l.any fun k => k.hasB i == b) ∧ Below w.heap.size w w' := by
  obtain ⟨_, _, ba, o, V, e1, _, hl, hc, hn, hcell, hrec⟩ := lies_slice hL
  cases e1
  simp only [Pr.kids_node] at *
  unfold maxLen at hc
  have HC := Lib.hid hcell
  have HR := Lib.hid hrec
  have HN := Lib.hid hn
  have HH := Lib.hid H
  have HX := Lib.hid hx
  have HB2 := Lib.hid hh
  clear hL hcell hrec hn H hx hh
  generalize hla : l.length = la at *
  have HLA := Lib.hid hla
  clear hla
  go_enter Tryz.func222, Tryz.ntmps222
  go_wp2_with fail
  go_loopw [8] (fun j wr => IxRel (fun k => k.hasB i == b) l la w j wr) (fun j _ => la - (intOf j).toNat)
  case atStart => exact ⟨0, Nat.zero_le _, rfl, by simp [Hid], Below.refl _ _⟩
  case round =>
    obtain ⟨k, hk, rfl, HS, hb⟩ := hrel
    by_cases hlt : k < la
    · obtain ⟨p, hp⟩ : ∃ p, l[k]? = some p := ⟨_, List.getElem?_eq_getElem (by rw [HLA.out]; exact hlt)⟩
      obtain ⟨rfl, hB⟩ := HN.out (by omega)
      obtain ⟨oq, cq, hV⟩ := lies_val (HR.out k p hp)
      obtain ⟨c0, c1, c2, c3, c4⟩ := pc_cells (w := wr) (fun j u hu => (hb.cell (p := ⟨ba, o + k * 5 + j, none⟩) hB).trans (HC.out k p hp j u hu))
      have L0 := (HR.out k p hp).later hb (Nat.le_refl _)
      rw [hV] at c4 L0
      have CC := some1_calls i r c st d b p (HH.out p (List.mem_of_getElem? hp)) (.slice oq p.kids.length cq) wr L0 bx bh (HX.out.below hb HX.out.lt) (HB2.out.below hb HB2.out.lt)
      have HB := Lib.hid hb
      have HS0 := HS.out
      cases hs : (p.hasB i == b)
      · have HF := Lib.hid (any_step (P := fun k => k.hasB i == b) hp HS0 hs)
        rw [hs] at CC
        have CC := Lib.hid CC
        clear hb hV L0 HS0 hs hp
        go_wp2_with (go_at_call 206; refine CC.out.mono ?_; rintro e w' ⟨rfl, hb'⟩)
        go_roundw
        case rel => exact ⟨k + 1, by omega, by go_num, HF.out, HB.out.trans (hb'.mono HB.out.size)⟩
        case measure => simp [intOf]; omega
      · have HF := Lib.hid (any_hit (P := fun k => k.hasB i == b) hp hs)
        rw [hs] at CC
        have CC := Lib.hid CC
        clear hb hV L0 HS0 hs hp
        go_wp2_with (go_at_call 206; refine CC.out.mono ?_; rintro e w' ⟨rfl, hb'⟩)
        go_ret
        exact ⟨_, rfl, by rw [HF.out]; simp, HB.out.trans (hb'.mono HB.out.size)⟩
    · have HB := Lib.hid hb
      clear hb
      have e : k = la := by omega
      have h7 := HS.out
      rw [Pr.take_all l (by rw [HLA.out]; omega)] at h7
      have H7 := Lib.hid h7
      clear h7 e
      go_wp2_with fail
      go_ret
      exact ⟨_, rfl, by rw [H7.out]; simp, HB.out⟩
set_option maxHeartbeats 1000000 in
theorem contains1_calls (i : It) (r c st : Int) (d b : Bool) (l : List Pr) (H : ∀ k ∈ l, HasFn i r c st d k) (oa : Option Addr) (cap : Nat) (w : World) (hL : LK w l (.slice oa l.length cap)) (bx bh : Nat) (hx : Has w bx (itC i r c st d)) (hh : Has w bh #[.bool b]) :
    Calls Tryz.prog 205 #[.slice oa l.length cap, .func (Fn.func 206) #[] #[.pointer (some ⟨bx, 0, none⟩), .pointer (some ⟨bh, 0, none⟩)]] w fun e w' =>
      e = .returned (.bool (l.any fun k => k.hasB i == b)) ∧ Below w.heap.size w w' := by
  have C := Lib.hid (index1_calls i r c st d b l H oa cap w hL bx bh hx hh)
  clear H hL hx hh
  go_enter Tryz.func205, Tryz.ntmps205
  go_wp2_with (go_at_call 222; refine C.out.mono ?_; rintro e w' ⟨n, rfl, hn, hb⟩)
  go_ret
  exact ⟨ret_bool (by rw [← hn]), hb⟩
set_option maxHeartbeats 1000000 in
theorem some_calls (i : It) (r c st : Int) (d b : Bool) (l : List Pr) (H : ∀ k ∈ l, HasFn i r c st d k) (oa : Option Addr) (cap : Nat) (w : World) (hL : LK w l (.slice oa l.length cap)) :
    Calls Tryz.prog 168 #[.slice oa l.length cap, itV i r c st d, .bool b] w fun e w' =>
      e = .returned (.bool (l.any fun k => k.hasB i == b)) ∧ Below w.heap.size w w' := by
  have C := Lib.hid (contains1_calls i r c st d b l H oa cap ((w.alloc (.cells (itC i r c st d) 68)).alloc (.cells #[.bool b] 4)) ((hL.atAlloc _).atAlloc _) w.heap.size (w.heap.size + 1) ((Has.new w _ _).alloc _) ((Own.newAt _ _ _ (by simp)).has))
  clear H hL
  go_enter Tryz.func168, Tryz.ntmps168
  go_wp2_with (go_at_call 205; refine C.out.mono ?_; rintro e w' ⟨rfl, hb⟩)
  go_ret
  exact ⟨rfl, below_new (below_new hb)⟩
end Go.Proofs.YthbjgfennclidaaGreat
/- Addresses of a row's cells; lists by their places. No walk. -/
namespace Go.Proofs.YthbjgfennclidaaGreat
set_option linter.unusedVariables false
set_option linter.unusedSimpArgs false
set_option maxRecDepth 100000
open Go.ChangeShapes Go.WideShapes Go.ChangeAt Go.RowKit Go.Deep
theorem addr_at {a : Addr} (h : a.spot = none) (n : Nat) : a.add n = ⟨a.block, a.off + n, none⟩ := by
  obtain ⟨b, o, s⟩ := a
  simp only at h; subst h
  unfold Addr.add; split <;> simp_all
theorem addr_lit {a : Addr} (h : a.spot = none) : a = ⟨a.block, a.off, none⟩ := by
  obtain ⟨b, o, s⟩ := a
  simp only at h; subst h; rfl
theorem map_range {α : Type} (P : Nat → α) {n i : Nat} {q : α} (h : ((List.range n).map P)[i]? = some q) : i < n ∧ q = P i := by
  rw [List.getElem?_map] at h
  cases e : (List.range n)[i]? with
  | none => rw [e] at h; cases h
  | some k =>
    rw [e] at h
    obtain ⟨h1, h2⟩ := List.getElem?_eq_some_iff.1 e
    simp at h1 h2 h
    subst h2
    exact ⟨h1, h.symm⟩
end Go.Proofs.YthbjgfennclidaaGreat
/- What the arguments of the laws read as: rows opened to their cells. -/
namespace Go.Proofs.YthbjgfennclidaaGreat
set_option linter.unusedVariables false
set_option linter.unusedSimpArgs false
set_option maxRecDepth 100000
open Go.ChangeShapes Go.WideShapes Go.ChangeAt Go.RowKit Go.Deep
section
variable {H : Type} {enc : TypeId × Value → H} {w : World} {base : Nat} {spare : Nat → Bool} {held : Bool} {fuel : Nat} {cs : List Value} {x : DataW H × List MemPlace}
def RowCells (cs : List Value) : Prop := ∃ (id : ByteArray) (r c st : Int) (kd : ByteArray) (n : Int) (x y : Nat) (d : Bool),
  cs = [.string id, .int .i64 r, .int .i64 c, .int .i64 st, .string kd, .int .i64 n, .float .f64 x, .float .f64 y, .bool d] ∧ id.size ≤ maxLen ∧ kd.size ≤ maxLen ∧
  (Lit.int .i64 r).wf = true ∧ (Lit.int .i64 c).wf = true ∧ (Lit.int .i64 st).wf = true ∧ (Lit.int .i64 n).wf = true
set_option maxRecDepth 100000 in
theorem trod_row (h : DataW.trod enc Tryz.prog w base spare held fuel 132 cs = some x) : RowCells cs := by
  obtain ⟨xs, n, hn, hx, hl, hxl, hf⟩ := DataW.trod_struct Tryz.underlying132 h
  have hl' : cs.length = 9 := hl.trans (by kernel_rfl)
  have F := fun i f hi => field_at (P := Tryz.prog) (by kernel_rfl) (by rw [hl']; rfl) hxl hf i f hi
  match cs, hl' with
  | [c0, c1, c2, c3, c4, c5, c6, c7, c8], _ =>
    obtain ⟨_, _, e0, t0⟩ := F 0 _ rfl
    obtain ⟨_, _, e1, t1⟩ := F 1 _ rfl
    obtain ⟨_, _, e2, t2⟩ := F 2 _ rfl
    obtain ⟨_, _, e3, t3⟩ := F 3 _ rfl
    obtain ⟨_, _, e4, t4⟩ := F 4 _ rfl
    obtain ⟨_, _, e5, t5⟩ := F 5 _ rfl
    obtain ⟨_, _, e6, t6⟩ := F 6 _ rfl
    obtain ⟨_, _, e7, t7⟩ := F 7 _ rfl
    obtain ⟨_, _, e8, t8⟩ := F 8 _ rfl
    obtain ⟨s0, k0, _, z0⟩ := DataW.trod_string Tryz.underlying9 t0
    obtain ⟨s1, k1, _, z1⟩ := DataW.trod_int Tryz.underlying3 t1
    obtain ⟨s2, k2, _, z2⟩ := DataW.trod_int Tryz.underlying3 t2
    obtain ⟨s3, k3, _, z3⟩ := DataW.trod_int Tryz.underlying3 t3
    obtain ⟨s4, k4, _, z4⟩ := DataW.trod_string Tryz.underlying9 t4
    obtain ⟨s5, k5, _, z5⟩ := DataW.trod_int Tryz.underlying3 t5
    obtain ⟨s6, k6⟩ := trod_float Tryz.underlying22 t6
    obtain ⟨s7, k7⟩ := trod_float Tryz.underlying22 t7
    obtain ⟨s8, k8, _⟩ := DataW.trod_bool Tryz.underlying4 t8
    simp only [List.cons.injEq, and_true] at k0 k1 k2 k3 k4 k5 k6 k7 k8
    simp at e0 e1 e2 e3 e4 e5 e6 e7 e8
    subst e0 e1 e2 e3 e4 e5 e6 e7 e8 k0 k1 k2 k3 k4 k5 k6 k7 k8
    exact ⟨s0, s1, s2, s3, s4, s5, s6, s7, s8, rfl, z0, z4, z1, z2, z3, z5⟩
end
end Go.Proofs.YthbjgfennclidaaGreat
/- Filters made plain, as the code does it: plain mathematics. No walk. -/
namespace Go.Proofs.YthbjgfennclidaaGreat
set_option linter.unusedVariables false
set_option linter.unusedSimpArgs false
set_option maxRecDepth 100000
/-! ### What is the same as the same is the same -/
namespace Fl
open Ieee
end Fl
namespace Pr
/-! ### The code's words -/
/-! ### add -/
/-! ### As the document's, but for what a Star, a None, holds of its place -/
def Near2 (a b : Pr) : Prop := a = b ∨ (a.op = b.op ∧ (a.op = 1 ∨ a.op = 2) ∧ a.all = true ∧ b.all = true)
theorem Near2.eq {a b : Pr} (h : Near2 a b) (h1 : b.op ≠ 1) (h2 : b.op ≠ 2) : a = b := by
  rcases h with rfl | h
  · rfl
  · have := h.1; omega
end Pr
end Go.Proofs.YthbjgfennclidaaGreat
/- Which items a filter has: the code's Has, walked. -/
namespace Go.Proofs.YthbjgfennclidaaGreat
set_option linter.unusedVariables false
set_option linter.unusedSimpArgs false
set_option maxRecDepth 100000
open Go.RowKit
theorem all_any (i : It) (l : List Pr) : Pr.hasAll i l = !(l.any fun k => k.hasB i == false) := by
  induction l with
  | nil => simp [Pr.hasAll]
  | cons a l ih => simp only [Pr.hasAll, ih, List.any_cons, Bool.not_or]; cases Pr.hasB i a <;> simp
theorem any_any (i : It) (l : List Pr) : Pr.hasAny i l = l.any fun k => k.hasB i == true := by
  induction l with
  | nil => simp [Pr.hasAny]
  | cons a l ih => simp only [Pr.hasAny, ih, List.any_cons]; cases Pr.hasB i a <;> simp
set_option maxRecDepth 100000 in
set_option maxHeartbeats 4000000 in
theorem has_calls (i : It) (r c st : Int) (d : Bool) (hid : i.id.size ≤ maxLen) (p : Pr) : HasFn i r c st d p := by
  induction p using Pr.ind with
  | h op t n x y kids ih =>
    intro v w hL
    obtain ⟨oa, cap, b, o, V, rfl, ht, hl, hc, hn, hcell, hrec⟩ := lies_slice hL
    have LK0 := lies_kids hL
    simp only [Pr.kids_node, Pr.text_node, Pr.op_node, Pr.n_node, Pr.x_node, Pr.y_node] at *
    unfold maxLen at hc
    have SM := fun b w' h => Lib.hid (some_calls i r c st d b kids ih oa cap w' h)
    have LL := fun a a' => Lib.hid ((LK0.atAlloc a).atAlloc a')
    have HC := Lib.hid hcell
    have HR := Lib.hid hrec
    have HN := Lib.hid hn
    have HI := Lib.hid ih
    have HT := Lib.hid ht
    have HID := Lib.hid hid
    clear hL LK0 hcell hrec hn ih ht hid
    have HAll := Lib.hid (all_any i kids)
    have HAny := Lib.hid (any_any i kids)
    generalize hlen : kids.length = len at *
    have HLEN := Lib.hid hlen
    clear hlen
    generalize hres : Pr.hasB i (.node op t n x y kids) = res
    have HRES := Lib.hid hres
    clear hres
    have BE := fun (a a' : Obj) => Lib.hid (((Below.refl w.heap.size w).alloc (Nat.le_refl _) a).alloc (by simp) a')
    have hop : op = 1 ∨ op = 3 ∨ op = 4 ∨ op = 5 ∨ op = 6 ∨ op = 7 ∨ op = 8 ∨ op = 9 ∨ op = 10 ∨ (op ≠ 1 ∧ op ≠ 3 ∧ op ≠ 4 ∧ op ≠ 5 ∧ op ≠ 6 ∧ op ≠ 7 ∧ op ≠ 8 ∧ op ≠ 9 ∧ op ≠ 10) := by omega
    rcases hop with rfl | rfl | rfl | rfl | rfl | rfl | rfl | rfl | rfl | ⟨n1, n3, n4, n5, n6, n7, n8, n9, n10⟩
    · have E := Lib.hid (show res = true by rw [← HRES.out]; simp [Pr.hasB])
      go_enter Tryz.func112, Tryz.ntmps112
      go_wp2_with fail
      go_ret
      exact ⟨ret_bool E.out.symm, (BE _ _).out⟩
    · have E := Lib.hid (show res = decide (i.kd.toList = t.toList) by rw [← HRES.out]; simp [Pr.hasB])
      go_enter Tryz.func112, Tryz.ntmps112
      go_wp2_with fail
      all_goals
        go_ret
        exact ⟨ret_bool (by rw [E.out]; first | done | (rw [Bool.eq_iff_iff]; simp; done) | (simp_all; done)), (BE _ _).out⟩
    · have E := Lib.hid (show res = begB i.id t by rw [← HRES.out]; simp [Pr.hasB])
      have C := fun w => Lib.hid (prefix_calls i.id t w HID.out HT.out)
      go_enter Tryz.func112, Tryz.ntmps112
      go_wp2_with (go_at_call 166; refine (C _).out.mono ?_; rintro e w' ⟨rfl, rfl⟩)
      go_ret
      exact ⟨ret_bool E.out.symm, (BE _ _).out⟩
    · have E := Lib.hid (show res = decide (i.num < n) by rw [← HRES.out]; simp [Pr.hasB])
      go_enter Tryz.func112, Tryz.ntmps112
      go_wp2_with fail
      all_goals
        go_ret
        exact ⟨ret_bool (by rw [E.out]; first | done | (rw [Bool.eq_iff_iff]; simp; done) | (simp_all; done)), (BE _ _).out⟩
    · have E := Lib.hid (show res = decide (n ≤ i.num) by rw [← HRES.out]; simp [Pr.hasB])
      go_enter Tryz.func112, Tryz.ntmps112
      go_wp2_with fail
      all_goals
        go_ret
        exact ⟨ret_bool (by rw [E.out]; first | done | (rw [Bool.eq_iff_iff]; simp; done) | (simp_all; done)), (BE _ _).out⟩
    · have E := Lib.hid (show res = nearB i.ax i.ay x y n by rw [← HRES.out]; simp [Pr.hasB])
      have C := fun w => Lib.hid (near_calls i.ax i.ay x y n w)
      generalize nearB i.ax i.ay x y n = fv at *
      go_enter Tryz.func112, Tryz.ntmps112
      go_wp2_with (go_at_call 167; refine (C _).out.mono ?_; rintro e w' ⟨rfl, rfl⟩)
      go_ret
      exact ⟨ret_bool E.out.symm, (BE _ _).out⟩
    · have E := Lib.hid (show res = !(kids.any fun k => k.hasB i == false) by rw [← HRES.out, ← HAll.out]; simp [Pr.hasB])
      go_enter Tryz.func112, Tryz.ntmps112
      go_wp2_with (go_at_call 168; refine (SM _ _ (LL _ _).out).out.mono ?_; rintro e w' ⟨rfl, hb⟩)
      go_ret
      exact ⟨ret_bool (by rw [E.out]; simp), below_new (below_new hb)⟩
    · have E := Lib.hid (show res = (kids.any fun k => k.hasB i == true) by rw [← HRES.out, ← HAny.out]; simp [Pr.hasB])
      go_enter Tryz.func112, Tryz.ntmps112
      go_wp2_with (go_at_call 168; refine (SM _ _ (LL _ _).out).out.mono ?_; rintro e w' ⟨rfl, hb⟩)
      go_ret
      exact ⟨ret_bool (by rw [E.out]; simp), below_new (below_new hb)⟩
    · by_cases h0 : len = 0
      · subst h0
        have E := Lib.hid (show res = false by rw [← HRES.out, List.length_eq_zero_iff.1 HLEN.out]; simp [Pr.hasB, Pr.hasNot])
        have G1 := Lib.hid ((Has.new w #[.int .i64 10, .string t, .int .i64 n, .complex .f64 x y, .slice oa 0 cap] 44).alloc (.cells (itC i r c st d) 68))
        have G2 := Lib.hid ((Own.newAt (w.alloc (.cells #[.int .i64 10, .string t, .int .i64 n, .complex .f64 x y, .slice oa 0 cap] 44)) (itC i r c st d) 68 (b := w.heap.size + 1) (by simp)).has)
        have LA := fun dd os o => G1.out.regrown dd os o
        have LB := fun dd os o => G2.out.regrown dd os o
        have l1 := G1.out.cell
        go_enter Tryz.func112, Tryz.ntmps112
        go_wp2_with fail
        refine wp_region_quiet_below (by kernel_rfl) (by kernel_rfl) ?_
        repeat (first | go_big_quiet_step (fail) | quiet_step (fail))
        refine wpQuiet_nil ?_
        intro w7 hw'
        have hb' := Lib.hid (regrown_below hw')
        clear hw'
        go_wp2_with fail
        go_ret
        exact ⟨ret_bool E.out.symm, below_new (below_new hb'.out)⟩
      · obtain ⟨q, hq⟩ : ∃ q, kids[0]? = some q := ⟨_, List.getElem?_eq_getElem (by rw [HLEN.out]; omega)⟩
        obtain ⟨rfl, hB⟩ := HN.out (by omega)
        obtain ⟨oq, cq, hV⟩ := lies_val (HR.out 0 q hq)
        have hbw : Below w.heap.size w ((w.alloc (.cells #[.int .i64 10, .string t, .int .i64 n, .complex .f64 x y, .slice (some ⟨b, o, none⟩) len cap] 44)).alloc (.cells (itC i r c st d) 68)) := (BE _ _).out
        obtain ⟨c0, c1, c2, c3, c4⟩ := pc_cells (w := ((w.alloc (.cells #[.int .i64 10, .string t, .int .i64 n, .complex .f64 x y, .slice (some ⟨b, o, none⟩) len cap] 44)).alloc (.cells (itC i r c st d) 68))) (fun j u hu => (hbw.cell (p := ⟨b, o + 0 * 5 + j, none⟩) hB).trans (HC.out 0 q hq j u hu))
        have L0 := (HR.out 0 q hq).later hbw (Nat.le_refl _)
        rw [hV] at c4 L0
        have CC := fun dd os => HI.out q (List.mem_of_getElem? hq) (.slice oq q.kids.length cq) (Sort.grow (redrawn ((w.alloc (.cells #[.int .i64 10, .string t, .int .i64 n, .complex .f64 x y, .slice (some ⟨b, o, none⟩) len cap] 44)).alloc (.cells (itC i r c st d) 68)) dd) os) (L0.later (below_regrown _ _ _) (Nat.le_refl _))
        have r0 := fun dd os => cell_regrown c0 dd os
        have r1 := fun dd os => cell_regrown c1 dd os
        have r2 := fun dd os => cell_regrown c2 dd os
        have r3 := fun dd os => cell_regrown c3 dd os
        have r4 := fun dd os => cell_regrown c4 dd os
        have G1 := Lib.hid ((Has.new w #[.int .i64 10, .string t, .int .i64 n, .complex .f64 x y, .slice (some ⟨b, o, none⟩) len cap] 44).alloc (.cells (itC i r c st d) 68))
        have G2 := Lib.hid ((Own.newAt (w.alloc (.cells #[.int .i64 10, .string t, .int .i64 n, .complex .f64 x y, .slice (some ⟨b, o, none⟩) len cap] 44)) (itC i r c st d) 68 (b := w.heap.size + 1) (by simp)).has)
        have LA := fun dd os o => G1.out.regrown dd os o
        have LB := fun dd os o => G2.out.regrown dd os o
        have l1 := G1.out.cell
        have E := Lib.hid (show res = !(Pr.hasB i q) by
          rw [← HRES.out]
          match kids, hq with
          | a :: l, hq => simp at hq; subst hq; simp [Pr.hasB, Pr.hasNot])
        have m3 := fun dd os => Lib.hid (Calls.regrown_of (CC dd os))
        have hk0 : (0 : Int) < (len : Int) := by omega
        have hk1 : 0 < len := by omega
        have hk2 : decide (0 < len) = true := by simp; omega
        have hk3 : decide ((0 : Int) < (len : Int)) = true := by simp; omega
        generalize Pr.hasB i q = rq at *
        clear hV L0 hq CC hbw
        simp only [Nat.zero_mul, Nat.add_zero] at r0 r1 r2 r3 r4
        go_enter Tryz.func112, Tryz.ntmps112
        go_wp2_with fail
        refine wp_region_quiet_below (by kernel_rfl) (by kernel_rfl) ?_
        repeat (first | go_big_quiet_step ((with_reducible exact (m3 _ _).out)) | quiet_step (with_reducible exact (m3 _ _).out))
        refine wpQuiet_nil ?_
        intro w7 hw'
        have hb' := Lib.hid (regrown_below hw')
        clear hw' m3 r0 r1 r2 r3 r4 LA LB
        go_wp2_with fail
        go_ret
        exact ⟨ret_bool E.out.symm, below_new (below_new hb'.out)⟩
    · have E := Lib.hid (show res = false by rw [← HRES.out]; simp [Pr.hasB, n1, n3, n4, n5, n6, n7, n8, n9, n10])
      go_enter Tryz.func112, Tryz.ntmps112
      go_wp2_with fail
      go_ret
      exact ⟨ret_bool E.out.symm, (BE _ _).out⟩
end Go.Proofs.YthbjgfennclidaaGreat
