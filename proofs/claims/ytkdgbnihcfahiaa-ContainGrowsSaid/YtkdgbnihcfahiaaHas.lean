/- Which items a filter has: the code's walks. -/
import Derived.Test.YtkdgbnihcfahiaaHasM
import Derived.Test.YtkdgbnihcfahiaaFar
import Derived.Test.YtkdgbnihcfahiaaSame
import Derived.Test.YtkdgbnihcfahiaaOwn
import Derived.Test.YtkdgbnihcfahiaaPfx
namespace Go.Proofs.Ytkdgbnihcfahiaa
open Go.RowKit

/-! ### some -/
abbrev itV (i : It) (r c st : Int) (d : Bool) : Value := .agg #[.string i.id, .int .i64 r, .int .i64 c, .int .i64 st, .string i.kd, .int .i64 i.num, .complex .f64 i.ax i.ay, .bool d]
abbrev itC (i : It) (r c st : Int) (d : Bool) : Array Value := #[.string i.id, .int .i64 r, .int .i64 c, .int .i64 st, .string i.kd, .int .i64 i.num, .complex .f64 i.ax i.ay, .bool d]

def HasFn (i : It) (r c st : Int) (d : Bool) (k : Pr) : Prop := ∀ (v : Value) (w : World), LP w k v →
    Calls Try.prog 12 #[.agg #[.int .i64 k.op, .string k.text, .int .i64 k.n, .complex .f64 k.x k.y, v], itV i r c st d] w fun e w' => e = .returned (.bool (k.hasB i)) ∧ Below w.heap.size w w'

set_option maxHeartbeats 1000000 in
theorem some1_calls (i : It) (r c st : Int) (d b : Bool) (k : Pr) (H : HasFn i r c st d k) (v : Value) (w : World) (hL : LP w k v) (bx bh : Nat) (hx : Has w bx (itC i r c st d)) (hh : Has w bh #[.bool b]) :
    Calls Try.prog 34 #[.agg #[.int .i64 k.op, .string k.text, .int .i64 k.n, .complex .f64 k.x k.y, v], .pointer (some ⟨bx, 0, none⟩), .pointer (some ⟨bh, 0, none⟩)] w fun e w' => e = .returned (.bool (k.hasB i == b)) ∧ Below w.heap.size w w' := by
  obtain ⟨oq, cq, rfl⟩ := lies_val hL
  have CC := fun dd os o => H (.slice oq k.kids.length cq) (Sort.grow (redrawn (w.alloc o) dd) os) ((hL.atAlloc o).later (below_regrown _ _ _) (Nat.le_refl _))
  have m3 := fun dd os o => Lib.hid (Calls.regrown_of (CC dd os o))
  have G1 := Lib.hid (Has.new w #[.int .i64 k.op, .string k.text, .int .i64 k.n, .complex .f64 k.x k.y, .slice oq k.kids.length cq] 31)
  have l1 := G1.out.cell
  have LA := fun dd os o => G1.out.regrown dd os o
  have LB := fun dd os a o => (hx.alloc a).regrown dd os o
  have LC := fun dd os a o => (hh.alloc a).regrown dd os o
  have z1 := hx.lt
  have z2 := hh.lt
  generalize Pr.hasB i k = kb at *
  clear CC hL H hx hh
  go_enter Try.func34, Try.ntmps34
  go_wp2_with fail
  refine wp_region_quiet_below (by kernel_rfl) (by kernel_rfl) ?_
  repeat (first | go_big_quiet_step ((with_reducible exact (m3 _ _ _).out)) | quiet_step (with_reducible exact (m3 _ _ _).out))
  refine wpQuiet_nil ?_
  intro w7 hw'
  have hb' := Lib.hid (regrown_below hw')
  clear hw' m3 LA LB LC
  go_wp2_with fail
  go_ret
  exact ⟨rfl, below_new hb'.out⟩

def IxRel (P : Pr → Bool) (l : List Pr) (len : Nat) (w0 : World) (i : Value) (wr : World) : Prop :=
  ∃ k : Nat, k ≤ len ∧ i = .int .i64 k ∧ Hid ((l.take k).any P = false) ∧ Below w0.heap.size w0 wr
theorem any_step {P : Pr → Bool} {l : List Pr} {k : Nat} {q : Pr} (hq : l[k]? = some q) (h : (l.take k).any P = false) (hs : P q = false) : (l.take (k + 1)).any P = false := by
  rw [Pr.take_one hq, List.any_append, h]; simp [hs]
theorem any_hit {P : Pr → Bool} {l : List Pr} {k : Nat} {q : Pr} (hq : l[k]? = some q) (hs : P q = true) : l.any P = true := by
  rw [List.any_eq_true]; exact ⟨q, List.mem_of_getElem? hq, hs⟩

set_option maxHeartbeats 2000000 in
theorem index1_calls (i : It) (r c st : Int) (d b : Bool) (l : List Pr) (H : ∀ k ∈ l, HasFn i r c st d k) (oa : Option Addr) (cap : Nat) (w : World) (hL : LK w l (.slice oa l.length cap)) (bx bh : Nat) (hx : Has w bx (itC i r c st d)) (hh : Has w bh #[.bool b]) :
    Calls Try.prog 44 #[.slice oa l.length cap, .func (Fn.func 34) #[] #[.pointer (some ⟨bx, 0, none⟩), .pointer (some ⟨bh, 0, none⟩)]] w fun e w' =>
      ∃ n : Int, e = .returned (.int .i64 n) ∧ decide (0 ≤ n) = (l.any fun k => k.hasB i == b) ∧ Below w.heap.size w w' := by
  obtain ⟨_, _, ba, o, V, e1, _, hl, hc, hn, hcell, hrec⟩ := lies_slice hL
  cases e1
  simp only [Pr.kids_node] at *
  unfold maxLen at hc
  have HC := Lib.hid hcell
  have HR := Lib.hid hrec
  have HN := Lib.hid hn
  have HH := Lib.hid H
  have HX := Lib.hid hx
  have HB2 := Lib.hid hh
  clear hL hcell hrec hn H hx hh
  generalize hla : l.length = la at *
  have HLA := Lib.hid hla
  clear hla
  go_enter Try.func44, Try.ntmps44
  go_wp2_with fail
  go_loopw [8] (fun j wr => IxRel (fun k => k.hasB i == b) l la w j wr) (fun j _ => la - (intOf j).toNat)
  case atStart => exact ⟨0, Nat.zero_le _, rfl, by simp [Hid], Below.refl _ _⟩
  case round =>
    obtain ⟨k, hk, rfl, HS, hb⟩ := hrel
    by_cases hlt : k < la
    · obtain ⟨p, hp⟩ : ∃ p, l[k]? = some p := ⟨_, List.getElem?_eq_getElem (by rw [HLA.out]; exact hlt)⟩
      obtain ⟨rfl, hB⟩ := HN.out (by omega)
      obtain ⟨oq, cq, hV⟩ := lies_val (HR.out k p hp)
      obtain ⟨c0, c1, c2, c3, c4⟩ := pc_cells (w := wr) (fun j u hu => (hb.cell (p := ⟨ba, o + k * 5 + j, none⟩) hB).trans (HC.out k p hp j u hu))
      have L0 := (HR.out k p hp).later hb (Nat.le_refl _)
      rw [hV] at c4 L0
      have CC := some1_calls i r c st d b p (HH.out p (List.mem_of_getElem? hp)) (.slice oq p.kids.length cq) wr L0 bx bh (HX.out.below hb HX.out.lt) (HB2.out.below hb HB2.out.lt)
      have HB := Lib.hid hb
      have HS0 := HS.out
      cases hs : (p.hasB i == b)
      · have HF := Lib.hid (any_step (P := fun k => k.hasB i == b) hp HS0 hs)
        rw [hs] at CC
        have CC := Lib.hid CC
        clear hb hV L0 HS0 hs hp
        go_wp2_with (go_at_call 34; refine CC.out.mono ?_; rintro e w' ⟨rfl, hb'⟩)
        go_roundw
        case rel => exact ⟨k + 1, by omega, by go_num, HF.out, HB.out.trans (hb'.mono HB.out.size)⟩
        case measure => simp [intOf]; omega
      · have HF := Lib.hid (any_hit (P := fun k => k.hasB i == b) hp hs)
        rw [hs] at CC
        have CC := Lib.hid CC
        clear hb hV L0 HS0 hs hp
        go_wp2_with (go_at_call 34; refine CC.out.mono ?_; rintro e w' ⟨rfl, hb'⟩)
        go_ret
        exact ⟨_, rfl, by rw [HF.out]; simp, HB.out.trans (hb'.mono HB.out.size)⟩
    · have HB := Lib.hid hb
      clear hb
      have e : k = la := by omega
      have h7 := HS.out
      rw [Pr.take_all l (by rw [HLA.out]; omega)] at h7
      have H7 := Lib.hid h7
      clear h7 e
      go_wp2_with fail
      go_ret
      exact ⟨_, rfl, by rw [H7.out]; simp, HB.out⟩

set_option maxHeartbeats 1000000 in
theorem contains1_calls (i : It) (r c st : Int) (d b : Bool) (l : List Pr) (H : ∀ k ∈ l, HasFn i r c st d k) (oa : Option Addr) (cap : Nat) (w : World) (hL : LK w l (.slice oa l.length cap)) (bx bh : Nat) (hx : Has w bx (itC i r c st d)) (hh : Has w bh #[.bool b]) :
    Calls Try.prog 33 #[.slice oa l.length cap, .func (Fn.func 34) #[] #[.pointer (some ⟨bx, 0, none⟩), .pointer (some ⟨bh, 0, none⟩)]] w fun e w' =>
      e = .returned (.bool (l.any fun k => k.hasB i == b)) ∧ Below w.heap.size w w' := by
  have C := Lib.hid (index1_calls i r c st d b l H oa cap w hL bx bh hx hh)
  clear H hL hx hh
  go_enter Try.func33, Try.ntmps33
  go_wp2_with (go_at_call 44; refine C.out.mono ?_; rintro e w' ⟨n, rfl, hn, hb⟩)
  go_ret
  exact ⟨ret_bool (by rw [← hn]), hb⟩

set_option maxHeartbeats 1000000 in
theorem some_calls (i : It) (r c st : Int) (d b : Bool) (l : List Pr) (H : ∀ k ∈ l, HasFn i r c st d k) (oa : Option Addr) (cap : Nat) (w : World) (hL : LK w l (.slice oa l.length cap)) :
    Calls Try.prog 20 #[.slice oa l.length cap, itV i r c st d, .bool b] w fun e w' =>
      e = .returned (.bool (l.any fun k => k.hasB i == b)) ∧ Below w.heap.size w w' := by
  have C := Lib.hid (contains1_calls i r c st d b l H oa cap ((w.alloc (.cells (itC i r c st d) 40)).alloc (.cells #[.bool b] 4)) ((hL.atAlloc _).atAlloc _) w.heap.size (w.heap.size + 1) ((Has.new w _ _).alloc _) ((Own.newAt _ _ _ (by simp)).has))
  clear H hL
  go_enter Try.func20, Try.ntmps20
  go_wp2_with (go_at_call 33; refine C.out.mono ?_; rintro e w' ⟨rfl, hb⟩)
  go_ret
  exact ⟨rfl, below_new (below_new hb)⟩

end Go.Proofs.Ytkdgbnihcfahiaa
