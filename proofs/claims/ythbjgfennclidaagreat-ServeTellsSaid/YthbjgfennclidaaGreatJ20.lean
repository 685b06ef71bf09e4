/- Joined: OpenK, SeenC, Tree, ByKids, ByOp. -/
import Derived.Test.YthbjgfennclidaaGreatJ06
import Derived.Test.YthbjgfennclidaaGreatJ19
import Derived.Test.YthbjgfennclidaaGreatJ18
import Derived.Deep.Slices
import Derived.Test.YthbjgfennclidaaGreatJ14
import Derived.Test.YthbjgfennclidaaGreatJ10
import Derived.Test.YthbjgfennclidaaGreatJ17
/- What the arguments of the laws read as: what is known. -/
namespace Go.Proofs.YthbjgfennclidaaGreat
set_option linter.unusedVariables false
set_option linter.unusedSimpArgs false
set_option maxRecDepth 100000
open Go.ChangeShapes Go.WideShapes Go.ChangeAt Go.RowKit Go.Deep
section
variable {H : Type} {enc : TypeId × Value → H} {w : World} {base : Nat} {spare : Nat → Bool} {held : Bool} {fuel : Nat} {cs : List Value} {x : DataW H × List MemPlace}
set_option maxRecDepth 100000 in
theorem trod_texts (h : DataW.trod enc Tryz.prog w base spare held fuel 123 cs = some x) : ∃ (l : List ByteArray) (v : Value), cs = [v] ∧ TxW w l v := by
  rcases open_slice1 Tryz.underlying123 (by kernel_rfl) h with ⟨rfl, _⟩ | ⟨a, len, cap, m, n, V, D, Pl, rfl, _, hl, hm, hmm, _, hx⟩
  · exact ⟨[], _, rfl, none, 0, 0, 0, rfl, Nat.le_refl _, by decide, fun h => absurd h (by simp), fun k s hk => by simp at hk, fun s hs => by simp at hs⟩
  · have hlm : len ≤ m := by rw [hmm]; split <;> omega
    have key : ∀ i, i < len → ∃ s : ByteArray, V i = .string s ∧ s.size ≤ maxLen := by
      intro i hi
      obtain ⟨s, k, _, z⟩ := DataW.trod_string Tryz.underlying9 (hx i (by omega)).2
      simp only [List.cons.injEq, and_true] at k
      exact ⟨s, k, z⟩
    classical
    let S : Nat → ByteArray := fun i => if h : i < len then (key i h).choose else ⟨#[]⟩
    have hS : ∀ i, i < len → V i = .string (S i) ∧ (S i).size ≤ maxLen := by
      intro i hi
      simp only [S, dif_pos hi]
      exact (key i hi).choose_spec
    have hlk : ((List.range len).map S).length = len := by simp
    have hs : 0 < len → a.spot = none ∧ a.block < w.heap.size := by
      intro h0
      have h1 := (hx 0 (by omega)).1
      have e : a.add 0 = a := by simp [Addr.add]
      rw [e] at h1
      exact ⟨World.cell?_spot h1, World.block_lt_of_cell? w _ h1⟩
    refine ⟨(List.range len).map S, _, rfl, some a, cap, a.block, a.off, by rw [hlk], by rw [hlk]; exact hl, hm, fun h => ?_, fun k s hk => ?_, fun s hs => ?_⟩
    · rw [hlk] at h
      exact ⟨congrArg some (addr_lit (hs h).1), (hs h).2⟩
    · obtain ⟨hk', rfl⟩ := map_range S hk
      rw [← addr_at (hs (by omega)).1, (hx k (by omega)).1, (hS k hk').1]
    · obtain ⟨k, hk, e⟩ := List.mem_iff_getElem.1 hs
      obtain ⟨hk, rfl⟩ := map_range S (by rw [List.getElem?_eq_getElem hk, e])
      exact (hS k hk).2
set_option maxRecDepth 100000 in
theorem trod_frag (h : DataW.trod enc Tryz.prog w base spare held fuel 125 cs = some x) : ∃ (f : Fr) (u : Value), cs = fc f u ∧ TxW w f.ids u := by
  obtain ⟨xs, n, hn, hx, hl, hxl, hf⟩ := DataW.trod_struct Tryz.underlying125 h
  have hl' : cs.length = 9 := hl.trans (by kernel_rfl)
  have hxl' : xs.length = 2 := hxl.trans (by kernel_rfl)
  have h0 : DataW.trod enc Tryz.prog w base spare held n 123 ((cs.drop 0).take (Tryz.prog.cellsOf 123)) = xs[0]? := hf 0 _ rfl
  have h1 : DataW.trod enc Tryz.prog w base spare held n 28 ((cs.drop 1).take (Tryz.prog.cellsOf 28)) = xs[1]? := hf 1 _ rfl
  rw [show Tryz.prog.cellsOf 123 = 1 by kernel_rfl, List.getElem?_eq_getElem (by omega)] at h0
  rw [show Tryz.prog.cellsOf 28 = 8 by kernel_rfl, List.getElem?_eq_getElem (by omega)] at h1
  match cs, hl' with
  | [c0, c1, c2, c3, c4, c5, c6, c7, c8], _ =>
    obtain ⟨l, v, e, ht⟩ := trod_texts h0
    obtain ⟨A, e'⟩ := trod_vec h1
    simp at e e'
    obtain ⟨e1, e2, e3, e4, e5, e6, e7, e8⟩ := e'
    subst e e1 e2 e3 e4 e5 e6 e7 e8
    exact ⟨⟨l, A⟩, _, rfl, ht⟩
set_option maxRecDepth 100000 in
theorem trod_frags (h : DataW.trod enc Tryz.prog w base spare held fuel 29 cs = some x) : ∃ (l : List Fr) (v : Value), cs = [v] ∧ FrW w l v := by
  rcases open_slice Tryz.underlying29 h with ⟨rfl, _⟩ | ⟨a, len, cap, m, n, D, Pl, rfl, _, hl, hm, hmm, _, hx⟩
  · exact ⟨[], _, rfl, fun _ => .nilFunc, none, 0, 0, 0, rfl, Nat.le_refl _, by decide, fun h => absurd h (by simp), fun k f hk => by simp at hk, fun k f hk => by simp at hk⟩
  · have hlm : len ≤ m := by rw [hmm]; split <;> omega
    have hC : Tryz.prog.cellsOf 125 = 9 := by kernel_rfl
    rw [hC] at hx
    have key : ∀ i, i < len → ∃ (f : Fr) (u : Value), (∀ j z, (fc f u)[j]? = some z → w.cell? (a.add (i * 9 + j)) = some z) ∧ TxW w f.ids u := by
      intro i hi
      obtain ⟨cs', h2, h3⟩ := hx i (by omega)
      obtain ⟨_, hcl, hat⟩ := World.cells?_some h2
      obtain ⟨f, u, rfl, ht⟩ := trod_frag h3
      refine ⟨f, u, fun j z hz => ?_, ht⟩
      have hj : j < 9 := (List.getElem?_eq_some_iff.1 hz).1
      rw [← Go.Deep.add_add, hat j hj, hz]
    classical
    let F : Nat → Fr := fun i => if h : i < len then (key i h).choose else ⟨[], zeroV⟩
    let U : Nat → Value := fun i => if h : i < len then (key i h).choose_spec.choose else .nilFunc
    have hFU : ∀ i, i < len → (∀ j z, (fc (F i) (U i))[j]? = some z → w.cell? (a.add (i * 9 + j)) = some z) ∧ TxW w (F i).ids (U i) := by
      intro i hi
      have := (key i hi).choose_spec.choose_spec
      simp only [F, U, dif_pos hi]
      exact this
    have hlk : ((List.range len).map F).length = len := by simp
    have hs : 0 < len → a.spot = none ∧ a.block < w.heap.size := by
      intro h0
      have h1 := (hFU 0 h0).1 0 _ rfl
      have e : a.add (0 * 9 + 0) = a := by simp [Addr.add]
      rw [e] at h1
      exact ⟨World.cell?_spot h1, World.block_lt_of_cell? w _ h1⟩
    refine ⟨(List.range len).map F, _, rfl, U, some a, cap, a.block, a.off, by rw [hlk], by rw [hlk]; exact hl, hm, fun h => ?_, fun k f hk j z hz => ?_, fun k f hk => ?_⟩
    · rw [hlk] at h
      exact ⟨congrArg some (addr_lit (hs h).1), (hs h).2⟩
    · obtain ⟨hk', rfl⟩ := map_range F hk
      have h1 := (hFU k hk').1 j z hz
      rw [addr_at (hs (by omega)).1] at h1
      rw [Nat.add_assoc]; exact h1
    · obtain ⟨hk', rfl⟩ := map_range F hk
      exact (hFU k hk').2
set_option maxRecDepth 100000 in
theorem trod_verW (h : DataW.trod enc Tryz.prog w base spare held fuel 66 cs = some x) : ∃ r c : Int, cs = [.int .i64 r, .int .i64 c] ∧ c ≤ 9223372036854775807 := by
  obtain ⟨xs, n, hn, hx, hl, hxl, hf⟩ := DataW.trod_struct Tryz.underlying66 h
  have hl' : cs.length = 2 := hl.trans (by kernel_rfl)
  have F := fun i f hi => field_at (P := Tryz.prog) (by kernel_rfl) (by rw [hl']; rfl) hxl hf i f hi
  match cs, hl' with
  | [c0, c1], _ =>
    obtain ⟨_, _, e0, t0⟩ := F 0 _ rfl
    obtain ⟨_, _, e1, t1⟩ := F 1 _ rfl
    obtain ⟨s0, k0, _⟩ := DataW.trod_int Tryz.underlying3 t0
    obtain ⟨s1, k1, _, z1⟩ := DataW.trod_int Tryz.underlying3 t1
    simp only [List.cons.injEq, and_true] at k0 k1
    simp at e0 e1
    subst e0 e1 k0 k1
    refine ⟨s0, s1, rfl, ?_⟩
    simp [Lit.wf, IntKind.min, IntKind.max, IntKind.signed, IntKind.bits] at z1
    omega
end
end Go.Proofs.YthbjgfennclidaaGreat
/- Which filter is seen in which: the code's walks. -/
namespace Go.Proofs.YthbjgfennclidaaGreat
set_option linter.unusedVariables false
set_option linter.unusedSimpArgs false
set_option maxRecDepth 100000
open Go.RowKit
abbrev pv (p : Pr) (v : Value) : Value := .agg #[.int .i64 p.op, .string p.text, .int .i64 p.n, .complex .f64 p.x p.y, v]
abbrev pa (p : Pr) (v : Value) : Array Value := #[.int .i64 p.op, .string p.text, .int .i64 p.n, .complex .f64 p.x p.y, v]
def CSeen (p q : Pr) : Prop := ∀ (v v' : Value) (w : World), LP w p v → LP w q v' →
    Calls Tryz.prog 173 #[pv p v, pv q v'] w fun e w' => e = .returned (.bool (Pr.seenB p q)) ∧ Below w.heap.size w w'
def FnOk (fn : FuncId) (bx : Nat) (P : Pr → Bool) (k : Pr) (w0 : World) : Prop := ∀ (v : Value) (w : World), Below w0.heap.size w0 w → LP w k v →
    Calls Tryz.prog fn #[pv k v, .pointer (some ⟨bx, 0, none⟩)] w fun e w' => e = .returned (.bool (P k)) ∧ Below w.heap.size w w'
theorem FnOk.later {fn : FuncId} {bx : Nat} {P : Pr → Bool} {k : Pr} {w0 w1 : World} (h : FnOk fn bx P k w0) (hb : Below w0.heap.size w0 w1) : FnOk fn bx P k w1 :=
  fun v w hb' => h v w (hb.trans (hb'.mono hb.size))
/-! ### the closures -/
set_option maxHeartbeats 1000000 in
theorem kid1_calls (q : Pr) (v' : Value) (k : Pr) (H : CSeen k q) (bx : Nat) (w0 : World) (hM : LP w0 q v') (hx : Has w0 bx (pa q v')) : FnOk 224 bx (fun k => Pr.seenB k q) k w0 := by
  intro v w hb0 hL
  show Calls Tryz.prog 224 #[pv k v, .pointer (some ⟨bx, 0, none⟩)] w fun e w' => e = .returned (.bool (Pr.seenB k q)) ∧ Below w.heap.size w w'
  obtain ⟨oq, cq, rfl⟩ := lies_val hL
  obtain ⟨oq', cq', rfl⟩ := lies_val hM
  have C := Lib.hid (H _ _ (w.alloc (.cells (pa k (.slice oq k.kids.length cq)) 44)) (hL.atAlloc _) ((hM.later hb0 (Nat.le_refl _)).atAlloc _))
  have l1 := ((hx.below hb0 hx.lt).alloc (.cells (pa k (.slice oq k.kids.length cq)) 44)).cell
  have z1 := (hx.below hb0 hx.lt).lt
  generalize Pr.seenB k q = kb at *
  clear H hM hL hx hb0
  go_enter Tryz.func224, Tryz.ntmps224
  go_wp2_with (go_at_call 173; refine C.out.mono ?_; rintro e w' ⟨rfl, hb⟩)
  go_ret
  exact ⟨rfl, below_new hb⟩
set_option maxHeartbeats 1000000 in
theorem kid2_calls (p : Pr) (v' : Value) (k : Pr) (H : CSeen p k) (bx : Nat) (w0 : World) (hM : LP w0 p v') (hx : Has w0 bx (pa p v')) : FnOk 225 bx (fun k => Pr.seenB p k) k w0 := by
  intro v w hb0 hL
  show Calls Tryz.prog 225 #[pv k v, .pointer (some ⟨bx, 0, none⟩)] w fun e w' => e = .returned (.bool (Pr.seenB p k)) ∧ Below w.heap.size w w'
  obtain ⟨oq, cq, rfl⟩ := lies_val hL
  obtain ⟨oq', cq', rfl⟩ := lies_val hM
  have C := Lib.hid (H _ _ (w.alloc (.cells (pa k (.slice oq k.kids.length cq)) 44)) ((hM.later hb0 (Nat.le_refl _)).atAlloc _) (hL.atAlloc _))
  have l1 := ((hx.below hb0 hx.lt).alloc (.cells (pa k (.slice oq k.kids.length cq)) 44)).cell
  have z1 := (hx.below hb0 hx.lt).lt
  generalize Pr.seenB p k = kb at *
  clear H hM hL hx hb0
  go_enter Tryz.func225, Tryz.ntmps225
  go_wp2_with (go_at_call 173; refine C.out.mono ?_; rintro e w' ⟨rfl, hb⟩)
  go_ret
  exact ⟨rfl, below_new hb⟩
set_option maxHeartbeats 1000000 in
theorem all1_calls1 (bx bh : Nat) (P : Pr → Bool) (k : Pr) (w0 : World) (H : FnOk 224 bx P k w0) (hh : Has w0 bh #[.func (Fn.func 224) #[] #[.pointer (some ⟨bx, 0, none⟩)]]) : FnOk 242 bh (fun k => !P k) k w0 := by
  intro v w hb0 hL
  show Calls Tryz.prog 242 #[pv k v, .pointer (some ⟨bh, 0, none⟩)] w fun e w' => e = .returned (.bool (!P k)) ∧ Below w.heap.size w w'
  obtain ⟨oq, cq, rfl⟩ := lies_val hL
  have C := Lib.hid (H _ (w.alloc (.cells (pa k (.slice oq k.kids.length cq)) 44)) (hb0.alloc hb0.size _) (hL.atAlloc _))
  have l1 := ((hh.below hb0 hh.lt).alloc (.cells (pa k (.slice oq k.kids.length cq)) 44)).cell
  have z1 := (hh.below hb0 hh.lt).lt
  generalize P k = kb at *
  clear H hL hh hb0
  go_enter Tryz.func242, Tryz.ntmps242
  go_wp2_with (go_at_call 224; refine C.out.mono ?_; rintro e w' ⟨rfl, hb⟩)
  go_ret
  exact ⟨rfl, below_new hb⟩
set_option maxHeartbeats 1000000 in
theorem all1_calls2 (bx bh : Nat) (P : Pr → Bool) (k : Pr) (w0 : World) (H : FnOk 225 bx P k w0) (hh : Has w0 bh #[.func (Fn.func 225) #[] #[.pointer (some ⟨bx, 0, none⟩)]]) : FnOk 242 bh (fun k => !P k) k w0 := by
  intro v w hb0 hL
  show Calls Tryz.prog 242 #[pv k v, .pointer (some ⟨bh, 0, none⟩)] w fun e w' => e = .returned (.bool (!P k)) ∧ Below w.heap.size w w'
  obtain ⟨oq, cq, rfl⟩ := lies_val hL
  have C := Lib.hid (H _ (w.alloc (.cells (pa k (.slice oq k.kids.length cq)) 44)) (hb0.alloc hb0.size _) (hL.atAlloc _))
  have l1 := ((hh.below hb0 hh.lt).alloc (.cells (pa k (.slice oq k.kids.length cq)) 44)).cell
  have z1 := (hh.below hb0 hh.lt).lt
  generalize P k = kb at *
  clear H hL hh hb0
  go_enter Tryz.func242, Tryz.ntmps242
  go_wp2_with (go_at_call 225; refine C.out.mono ?_; rintro e w' ⟨rfl, hb⟩)
  go_ret
  exact ⟨rfl, below_new hb⟩
set_option maxHeartbeats 2000000 in
theorem index_calls1 (bx : Nat) (P : Pr → Bool) (l : List Pr) (oa : Option Addr) (cap : Nat) (w : World) (H : ∀ k ∈ l, FnOk 224 bx P k w) (hL : LK w l (.slice oa l.length cap)) :
    Calls Tryz.prog 222 #[.slice oa l.length cap, .func (Fn.func 224) #[] #[.pointer (some ⟨bx, 0, none⟩)]] w fun e w' =>
      ∃ n : Int, e = .returned (.int .i64 n) ∧ decide (0 ≤ n) = l.any P ∧ Below w.heap.size w w' := by
  obtain ⟨_, _, ba, o, V, e1, _, hl, hc, hn, hcell, hrec⟩ := lies_slice hL
  cases e1
  simp only [Pr.kids_node] at *
  unfold maxLen at hc
  have HC := Lib.hid hcell
  have HR := Lib.hid hrec
  have HN := Lib.hid hn
  have HH := Lib.hid H
  clear hL hcell hrec hn H
  generalize hla : l.length = la at *
  have HLA := Lib.hid hla
  clear hla
  go_enter Tryz.func222, Tryz.ntmps222
  go_wp2_with fail
  go_loopw [8] (fun j wr => IxRel P l la w j wr) (fun j _ => la - (intOf j).toNat)
  case atStart => exact ⟨0, Nat.zero_le _, rfl, by simp [Hid], Below.refl _ _⟩
  case round =>
    obtain ⟨k, hk, rfl, HS, hb⟩ := hrel
    by_cases hlt : k < la
    · obtain ⟨p, hp⟩ : ∃ p, l[k]? = some p := ⟨_, List.getElem?_eq_getElem (by rw [HLA.out]; exact hlt)⟩
      obtain ⟨rfl, hB⟩ := HN.out (by omega)
      obtain ⟨oq, cq, hV⟩ := lies_val (HR.out k p hp)
      obtain ⟨c0, c1, c2, c3, c4⟩ := pc_cells (w := wr) (fun j u hu => (hb.cell (p := ⟨ba, o + k * 5 + j, none⟩) hB).trans (HC.out k p hp j u hu))
      have L0 := (HR.out k p hp).later hb (Nat.le_refl _)
      rw [hV] at c4 L0
      have CC := HH.out p (List.mem_of_getElem? hp) (.slice oq p.kids.length cq) wr hb L0
      have HB := Lib.hid hb
      have HS0 := HS.out
      cases hs : P p
      · have HF := Lib.hid (any_step hp HS0 hs)
        rw [hs] at CC
        have CC := Lib.hid CC
        clear hb hV L0 HS0 hs hp
        go_wp2_with (go_at_call 224; refine CC.out.mono ?_; rintro e w' ⟨rfl, hb'⟩)
        go_roundw
        case rel => exact ⟨k + 1, by omega, by go_num, HF.out, HB.out.trans (hb'.mono HB.out.size)⟩
        case measure => simp [intOf]; omega
      · have HF := Lib.hid (any_hit hp hs)
        rw [hs] at CC
        have CC := Lib.hid CC
        clear hb hV L0 HS0 hs hp
        go_wp2_with (go_at_call 224; refine CC.out.mono ?_; rintro e w' ⟨rfl, hb'⟩)
        go_ret
        exact ⟨_, rfl, by rw [HF.out]; simp, HB.out.trans (hb'.mono HB.out.size)⟩
    · have HB := Lib.hid hb
      clear hb
      have e : k = la := by omega
      have h7 := HS.out
      rw [Pr.take_all l (by rw [HLA.out]; omega)] at h7
      have H7 := Lib.hid h7
      clear h7 e
      go_wp2_with fail
      go_ret
      exact ⟨_, rfl, by rw [H7.out]; simp, HB.out⟩
set_option maxHeartbeats 1000000 in
theorem contains_calls1 (bx : Nat) (P : Pr → Bool) (l : List Pr) (oa : Option Addr) (cap : Nat) (w : World) (H : ∀ k ∈ l, FnOk 224 bx P k w) (hL : LK w l (.slice oa l.length cap)) :
    Calls Tryz.prog 205 #[.slice oa l.length cap, .func (Fn.func 224) #[] #[.pointer (some ⟨bx, 0, none⟩)]] w fun e w' =>
      e = .returned (.bool (l.any P)) ∧ Below w.heap.size w w' := by
  have C := Lib.hid (index_calls1 bx P l oa cap w H hL)
  clear H hL
  go_enter Tryz.func205, Tryz.ntmps205
  go_wp2_with (go_at_call 222; refine C.out.mono ?_; rintro e w' ⟨n, rfl, hn, hb⟩)
  go_ret
  exact ⟨ret_bool (by rw [← hn]), hb⟩
set_option maxHeartbeats 2000000 in
theorem index_calls2 (bx : Nat) (P : Pr → Bool) (l : List Pr) (oa : Option Addr) (cap : Nat) (w : World) (H : ∀ k ∈ l, FnOk 225 bx P k w) (hL : LK w l (.slice oa l.length cap)) :
    Calls Tryz.prog 222 #[.slice oa l.length cap, .func (Fn.func 225) #[] #[.pointer (some ⟨bx, 0, none⟩)]] w fun e w' =>
      ∃ n : Int, e = .returned (.int .i64 n) ∧ decide (0 ≤ n) = l.any P ∧ Below w.heap.size w w' := by
  obtain ⟨_, _, ba, o, V, e1, _, hl, hc, hn, hcell, hrec⟩ := lies_slice hL
  cases e1
  simp only [Pr.kids_node] at *
  unfold maxLen at hc
  have HC := Lib.hid hcell
  have HR := Lib.hid hrec
  have HN := Lib.hid hn
  have HH := Lib.hid H
  clear hL hcell hrec hn H
  generalize hla : l.length = la at *
  have HLA := Lib.hid hla
  clear hla
  go_enter Tryz.func222, Tryz.ntmps222
  go_wp2_with fail
  go_loopw [8] (fun j wr => IxRel P l la w j wr) (fun j _ => la - (intOf j).toNat)
  case atStart => exact ⟨0, Nat.zero_le _, rfl, by simp [Hid], Below.refl _ _⟩
  case round =>
    obtain ⟨k, hk, rfl, HS, hb⟩ := hrel
    by_cases hlt : k < la
    · obtain ⟨p, hp⟩ : ∃ p, l[k]? = some p := ⟨_, List.getElem?_eq_getElem (by rw [HLA.out]; exact hlt)⟩
      obtain ⟨rfl, hB⟩ := HN.out (by omega)
      obtain ⟨oq, cq, hV⟩ := lies_val (HR.out k p hp)
      obtain ⟨c0, c1, c2, c3, c4⟩ := pc_cells (w := wr) (fun j u hu => (hb.cell (p := ⟨ba, o + k * 5 + j, none⟩) hB).trans (HC.out k p hp j u hu))
      have L0 := (HR.out k p hp).later hb (Nat.le_refl _)
      rw [hV] at c4 L0
      have CC := HH.out p (List.mem_of_getElem? hp) (.slice oq p.kids.length cq) wr hb L0
      have HB := Lib.hid hb
      have HS0 := HS.out
      cases hs : P p
      · have HF := Lib.hid (any_step hp HS0 hs)
        rw [hs] at CC
        have CC := Lib.hid CC
        clear hb hV L0 HS0 hs hp
        go_wp2_with (go_at_call 225; refine CC.out.mono ?_; rintro e w' ⟨rfl, hb'⟩)
        go_roundw
        case rel => exact ⟨k + 1, by omega, by go_num, HF.out, HB.out.trans (hb'.mono HB.out.size)⟩
        case measure => simp [intOf]; omega
      · have HF := Lib.hid (any_hit hp hs)
        rw [hs] at CC
        have CC := Lib.hid CC
        clear hb hV L0 HS0 hs hp
        go_wp2_with (go_at_call 225; refine CC.out.mono ?_; rintro e w' ⟨rfl, hb'⟩)
        go_ret
        exact ⟨_, rfl, by rw [HF.out]; simp, HB.out.trans (hb'.mono HB.out.size)⟩
    · have HB := Lib.hid hb
      clear hb
      have e : k = la := by omega
      have h7 := HS.out
      rw [Pr.take_all l (by rw [HLA.out]; omega)] at h7
      have H7 := Lib.hid h7
      clear h7 e
      go_wp2_with fail
      go_ret
      exact ⟨_, rfl, by rw [H7.out]; simp, HB.out⟩
set_option maxHeartbeats 1000000 in
theorem contains_calls2 (bx : Nat) (P : Pr → Bool) (l : List Pr) (oa : Option Addr) (cap : Nat) (w : World) (H : ∀ k ∈ l, FnOk 225 bx P k w) (hL : LK w l (.slice oa l.length cap)) :
    Calls Tryz.prog 205 #[.slice oa l.length cap, .func (Fn.func 225) #[] #[.pointer (some ⟨bx, 0, none⟩)]] w fun e w' =>
      e = .returned (.bool (l.any P)) ∧ Below w.heap.size w w' := by
  have C := Lib.hid (index_calls2 bx P l oa cap w H hL)
  clear H hL
  go_enter Tryz.func205, Tryz.ntmps205
  go_wp2_with (go_at_call 222; refine C.out.mono ?_; rintro e w' ⟨n, rfl, hn, hb⟩)
  go_ret
  exact ⟨ret_bool (by rw [← hn]), hb⟩
set_option maxHeartbeats 2000000 in
theorem index_callsA (bx : Nat) (P : Pr → Bool) (l : List Pr) (oa : Option Addr) (cap : Nat) (w : World) (H : ∀ k ∈ l, FnOk 242 bx P k w) (hL : LK w l (.slice oa l.length cap)) :
    Calls Tryz.prog 222 #[.slice oa l.length cap, .func (Fn.func 242) #[] #[.pointer (some ⟨bx, 0, none⟩)]] w fun e w' =>
      ∃ n : Int, e = .returned (.int .i64 n) ∧ decide (0 ≤ n) = l.any P ∧ Below w.heap.size w w' := by
  obtain ⟨_, _, ba, o, V, e1, _, hl, hc, hn, hcell, hrec⟩ := lies_slice hL
  cases e1
  simp only [Pr.kids_node] at *
  unfold maxLen at hc
  have HC := Lib.hid hcell
  have HR := Lib.hid hrec
  have HN := Lib.hid hn
  have HH := Lib.hid H
  clear hL hcell hrec hn H
  generalize hla : l.length = la at *
  have HLA := Lib.hid hla
  clear hla
  go_enter Tryz.func222, Tryz.ntmps222
  go_wp2_with fail
  go_loopw [8] (fun j wr => IxRel P l la w j wr) (fun j _ => la - (intOf j).toNat)
  case atStart => exact ⟨0, Nat.zero_le _, rfl, by simp [Hid], Below.refl _ _⟩
  case round =>
    obtain ⟨k, hk, rfl, HS, hb⟩ := hrel
    by_cases hlt : k < la
    · obtain ⟨p, hp⟩ : ∃ p, l[k]? = some p := ⟨_, List.getElem?_eq_getElem (by rw [HLA.out]; exact hlt)⟩
      obtain ⟨rfl, hB⟩ := HN.out (by omega)
      obtain ⟨oq, cq, hV⟩ := lies_val (HR.out k p hp)
      obtain ⟨c0, c1, c2, c3, c4⟩ := pc_cells (w := wr) (fun j u hu => (hb.cell (p := ⟨ba, o + k * 5 + j, none⟩) hB).trans (HC.out k p hp j u hu))
      have L0 := (HR.out k p hp).later hb (Nat.le_refl _)
      rw [hV] at c4 L0
      have CC := HH.out p (List.mem_of_getElem? hp) (.slice oq p.kids.length cq) wr hb L0
      have HB := Lib.hid hb
      have HS0 := HS.out
      cases hs : P p
      · have HF := Lib.hid (any_step hp HS0 hs)
        rw [hs] at CC
        have CC := Lib.hid CC
        clear hb hV L0 HS0 hs hp
        go_wp2_with (go_at_call 242; refine CC.out.mono ?_; rintro e w' ⟨rfl, hb'⟩)
        go_roundw
        case rel => exact ⟨k + 1, by omega, by go_num, HF.out, HB.out.trans (hb'.mono HB.out.size)⟩
        case measure => simp [intOf]; omega
      · have HF := Lib.hid (any_hit hp hs)
        rw [hs] at CC
        have CC := Lib.hid CC
        clear hb hV L0 HS0 hs hp
        go_wp2_with (go_at_call 242; refine CC.out.mono ?_; rintro e w' ⟨rfl, hb'⟩)
        go_ret
        exact ⟨_, rfl, by rw [HF.out]; simp, HB.out.trans (hb'.mono HB.out.size)⟩
    · have HB := Lib.hid hb
      clear hb
      have e : k = la := by omega
      have h7 := HS.out
      rw [Pr.take_all l (by rw [HLA.out]; omega)] at h7
      have H7 := Lib.hid h7
      clear h7 e
      go_wp2_with fail
      go_ret
      exact ⟨_, rfl, by rw [H7.out]; simp, HB.out⟩
set_option maxHeartbeats 1000000 in
theorem contains_callsA (bx : Nat) (P : Pr → Bool) (l : List Pr) (oa : Option Addr) (cap : Nat) (w : World) (H : ∀ k ∈ l, FnOk 242 bx P k w) (hL : LK w l (.slice oa l.length cap)) :
    Calls Tryz.prog 205 #[.slice oa l.length cap, .func (Fn.func 242) #[] #[.pointer (some ⟨bx, 0, none⟩)]] w fun e w' =>
      e = .returned (.bool (l.any P)) ∧ Below w.heap.size w w' := by
  have C := Lib.hid (index_callsA bx P l oa cap w H hL)
  clear H hL
  go_enter Tryz.func205, Tryz.ntmps205
  go_wp2_with (go_at_call 222; refine C.out.mono ?_; rintro e w' ⟨n, rfl, hn, hb⟩)
  go_ret
  exact ⟨ret_bool (by rw [← hn]), hb⟩
theorem all_not (P : Pr → Bool) (l : List Pr) : l.all P = !(l.any fun k => !P k) := by
  induction l with
  | nil => rfl
  | cons a l ih => simp only [List.all_cons, List.any_cons, Bool.not_or, Bool.not_not, ih]
set_option maxHeartbeats 1000000 in
theorem all_calls1 (bx : Nat) (P : Pr → Bool) (l : List Pr) (oa : Option Addr) (cap : Nat) (w : World) (H : ∀ k ∈ l, FnOk 224 bx P k w) (hL : LK w l (.slice oa l.length cap)) :
    Calls Tryz.prog 226 #[.slice oa l.length cap, .func (Fn.func 224) #[] #[.pointer (some ⟨bx, 0, none⟩)]] w fun e w' =>
      e = .returned (.bool (l.all P)) ∧ Below w.heap.size w w' := by
  have C := Lib.hid (contains_callsA w.heap.size (fun k => !P k) l oa cap (w.alloc (.cells #[.func (Fn.func 224) #[] #[.pointer (some ⟨bx, 0, none⟩)]] 105))
    (fun k hk => all1_calls1 bx w.heap.size P k _ ((H k hk).later ((Below.refl _ _).alloc (Nat.le_refl _) _)) (Has.new w _ _)) (hL.atAlloc _))
  have E := Lib.hid (all_not P l)
  clear H hL
  go_enter Tryz.func226, Tryz.ntmps226
  go_wp2_with (go_at_call 205; refine C.out.mono ?_; rintro e w' ⟨rfl, hb⟩)
  go_ret
  exact ⟨ret_bool E.out.symm, below_new hb⟩
set_option maxHeartbeats 1000000 in
theorem all_calls2 (bx : Nat) (P : Pr → Bool) (l : List Pr) (oa : Option Addr) (cap : Nat) (w : World) (H : ∀ k ∈ l, FnOk 225 bx P k w) (hL : LK w l (.slice oa l.length cap)) :
    Calls Tryz.prog 226 #[.slice oa l.length cap, .func (Fn.func 225) #[] #[.pointer (some ⟨bx, 0, none⟩)]] w fun e w' =>
      e = .returned (.bool (l.all P)) ∧ Below w.heap.size w w' := by
  have C := Lib.hid (contains_callsA w.heap.size (fun k => !P k) l oa cap (w.alloc (.cells #[.func (Fn.func 225) #[] #[.pointer (some ⟨bx, 0, none⟩)]] 105))
    (fun k hk => all1_calls2 bx w.heap.size P k _ ((H k hk).later ((Below.refl _ _).alloc (Nat.le_refl _) _)) (Has.new w _ _)) (hL.atAlloc _))
  have E := Lib.hid (all_not P l)
  clear H hL
  go_enter Tryz.func226, Tryz.ntmps226
  go_wp2_with (go_at_call 205; refine C.out.mono ?_; rintro e w' ⟨rfl, hb⟩)
  go_ret
  exact ⟨ret_bool E.out.symm, below_new hb⟩
end Go.Proofs.YthbjgfennclidaaGreat
/- An argument that is a Tree: opened to its parts. -/
namespace Go.Proofs.YthbjgfennclidaaGreat
set_option linter.unusedVariables false
set_option linter.unusedSimpArgs false
set_option maxRecDepth 100000
open Go.ChangeShapes Go.WideShapes Go.ChangeAt Go.RowKit Go.Deep
section
variable {H : Type} {enc : TypeId × Value → H} {w : World} {base : Nat} {spare : Nat → Bool} {held : Bool}
set_option maxRecDepth 100000 in
theorem trod_kids (fuel : Nat) (ih : ∀ n, n < fuel → ∀ (cs : List Value) (x : DataW H × List MemPlace), DataW.trod enc Tryz.prog w base spare held n 25 cs = some x → ∃ p v, cs = tc p v ∧ Lies 6 tc (fun b => b < w.heap.size) w p v)
    {cs : List Value} {x : DataW H × List MemPlace} (h : DataW.trod enc Tryz.prog w base spare held fuel 23 cs = some x) :
    ∃ (kids : List Pr) (v : Value), cs = [v] ∧ ∀ op (t : ByteArray) n y z, t.size ≤ maxLen → Lies 6 tc (fun b => b < w.heap.size) w (.node op t n y z kids) v := by
  rcases DataW.trod_slice Tryz.underlying23 h with ⟨rfl, _⟩ | ⟨a, len, cap, elems, rest, n, hf, rfl, _, hb, hl, hm, hlen, hel, _, _⟩
  · exact ⟨[], _, rfl, fun op t n y z ht => .mk op t n y z [] none 0 0 0 (fun _ => .nilFunc) ht (Nat.le_refl _) (Nat.zero_le _) (fun h => absurd h (Nat.lt_irrefl _)) (fun i p h => by simp at h) (fun i p h => by simp at h)⟩
  · have hC : Tryz.prog.cellsOf 25 = 6 := by kernel_rfl
    rw [hC] at hel
    have key : ∀ i, i < len → ∃ p v, (∀ j u, (tc p v)[j]? = some u → w.cell? (a.add (i * 6 + j)) = some u) ∧ Lies 6 tc (fun b => b < w.heap.size) w p v := by
      intro i hi
      have h1 := hel i hi
      rw [List.getElem?_eq_getElem (by omega)] at h1
      obtain ⟨cs', h2, h3⟩ := Option.bind_eq_some_iff.1 h1
      obtain ⟨_, hcl, hat⟩ := World.cells?_some h2
      obtain ⟨p, v, rfl, hL⟩ := ih n (by omega) cs' _ h3
      refine ⟨p, v, fun j u hu => ?_, hL⟩
      have hj : j < 6 := by
        have := (List.getElem?_eq_some_iff.1 hu).1; simpa [tc] using this
      rw [← Go.Deep.add_add, hat j hj, hu]
    classical
    let P : Nat → Pr := fun i => if h : i < len then (key i h).choose else .node 0 ⟨#[]⟩ 0 0 0 []
    let V : Nat → Value := fun i => if h : i < len then (key i h).choose_spec.choose else .nilFunc
    have hPV : ∀ i, i < len → (∀ j u, (tc (P i) (V i))[j]? = some u → w.cell? (a.add (i * 6 + j)) = some u) ∧ Lies 6 tc (fun b => b < w.heap.size) w (P i) (V i) := by
      intro i hi
      have := (key i hi).choose_spec.choose_spec
      simp only [P, V, dif_pos hi]
      exact this
    have hk : ∀ (i : Nat) (q : Pr), ((List.range len).map P)[i]? = some q → i < len ∧ q = P i := by
      intro i q hq
      rw [List.getElem?_map] at hq
      cases h : (List.range len)[i]? with
      | none => rw [h] at hq; cases hq
      | some k =>
        rw [h] at hq
        obtain ⟨h1, h2⟩ := List.getElem?_eq_some_iff.1 h
        simp at h1 h2 hq
        subst h2
        exact ⟨h1, hq.symm⟩
    have hlk : ((List.range len).map P).length = len := by simp
    have hs : 0 < len → a.spot = none ∧ a.block < w.heap.size := by
      intro h0
      have h1 := (hPV 0 h0).1 0 _ rfl
      have e : a.add (0 * 6 + 0) = a := by simp [Addr.add]
      rw [e] at h1
      exact ⟨World.cell?_spot h1, World.block_lt_of_cell? w _ h1⟩
    refine ⟨(List.range len).map P, _, rfl, fun op t n y z ht => ?_⟩
    have := Lies.mk (sz := 6) (c := tc) (S := fun b => b < w.heap.size) (w := w) op t n y z ((List.range len).map P) (some a) cap a.block a.off V ht (by rw [hlk]; exact hl) hm
      (fun h => by
        rw [hlk] at h
        refine ⟨?_, (hs h).2⟩
        have h1 := (hs h).1
        obtain ⟨b, o, s⟩ := a
        simp only at h1; subst h1; rfl)
      (fun i p hp j u hu => by
        obtain ⟨hi, rfl⟩ := hk i p hp
        have h1 := (hPV i hi).1 j u hu
        rw [addr_at (hs (by omega)).1] at h1
        rw [Nat.add_assoc]; exact h1)
      (fun i p hp => by
        obtain ⟨hi, rfl⟩ := hk i p hp
        exact (hPV i hi).2)
    rw [hlk] at this
    exact this
set_option maxRecDepth 100000 in
theorem trod_tree (fuel : Nat) : ∀ (cs : List Value) (x : DataW H × List MemPlace), DataW.trod enc Tryz.prog w base spare held fuel 25 cs = some x → ∃ p v, cs = tc p v ∧ Lies 6 tc (fun b => b < w.heap.size) w p v := by
  induction fuel using Nat.strongRecOn with
  | ind fuel ih =>
    intro cs x h
    obtain ⟨xs, n, hn, hx, hl, hxl, hf⟩ := DataW.trod_struct Tryz.underlying25 h
    have hl' : cs.length = 6 := hl.trans (by kernel_rfl)
    have F := fun i f hi => field_at (P := Tryz.prog) (by kernel_rfl) (by rw [hl']; rfl) hxl hf i f hi
    match cs, hl' with
    | [c0, c1, c2, c3, c4, c5], _ =>
      obtain ⟨_, _, e0, t0⟩ := F 0 _ rfl
      obtain ⟨_, _, e1, t1⟩ := F 1 _ rfl
      obtain ⟨_, _, e2, t2⟩ := F 2 _ rfl
      obtain ⟨_, _, e3, t3⟩ := F 3 _ rfl
      obtain ⟨_, _, e4, t4⟩ := F 4 _ rfl
      obtain ⟨_, _, e5, t5⟩ := F 5 _ rfl
      obtain ⟨s0, k0, _, z0⟩ := DataW.trod_int Tryz.underlying3 t0
      obtain ⟨s1, k1, _, z1⟩ := DataW.trod_string Tryz.underlying9 t1
      obtain ⟨s2, k2, _, z2⟩ := DataW.trod_int Tryz.underlying3 t2
      obtain ⟨s3, k3⟩ := trod_float Tryz.underlying22 t3
      obtain ⟨s4, k4⟩ := trod_float Tryz.underlying22 t4
      obtain ⟨kids, v, k5, hL⟩ := trod_kids n (fun n' hn' => ih n' (by omega)) t5
      simp only [List.cons.injEq, and_true] at k0 k1 k2 k3 k4 k5
      simp at e0 e1 e2 e3 e4 e5
      subst e0 e1 e2 e3 e4 e5 k0 k1 k2 k3 k4 k5
      exact ⟨.node s0 s1 s2 s3 s4 kids, _, rfl, hL _ _ _ _ _ z1⟩
end
end Go.Proofs.YthbjgfennclidaaGreat
/- Which filter is seen in which: the code's byKids, walked. -/
namespace Go.Proofs.YthbjgfennclidaaGreat
set_option linter.unusedVariables false
set_option linter.unusedSimpArgs false
set_option maxRecDepth 100000
open Go.RowKit
set_option maxRecDepth 100000 in
set_option maxHeartbeats 4000000 in
theorem byKids_calls (p q : Pr) (H1 : ∀ k ∈ p.kids, CSeen k q) (H2 : ∀ k ∈ q.kids, CSeen p k) (v v' : Value) (w : World) (hL : LP w p v) (hM : LP w q v') :
    Calls Tryz.prog 212 #[pv p v, pv q v'] w fun e w' => e = .returned (.bool (Pr.listsB p q)) ∧ Below w.heap.size w w' := by
  obtain ⟨oa, cap, rfl⟩ := lies_val hL
  obtain ⟨oa', cap', rfl⟩ := lies_val hM
  generalize hp : p.kids.length = len at *
  generalize hq : q.kids.length = len' at *
  have hL2 := (hL.atAlloc (.cells (pa p (.slice oa len cap)) 44)).atAlloc (.cells (pa q (.slice oa' len' cap')) 44)
  have hM2 := (hM.atAlloc (.cells (pa p (.slice oa len cap)) 44)).atAlloc (.cells (pa q (.slice oa' len' cap')) 44)
  have g1 := (Has.new w (pa p (.slice oa len cap)) 44).alloc (.cells (pa q (.slice oa' len' cap')) 44)
  have g2 := (Own.newAt (w.alloc (.cells (pa p (.slice oa len cap)) 44)) (pa q (.slice oa' len' cap')) 44 (b := w.heap.size + 1) (by simp)).has
  have F1 := fun k hk => kid1_calls q (.slice oa' len' cap') k (H1 k hk) (w.heap.size + 1) _ hM2 g2
  have F2 := fun k hk => kid2_calls p (.slice oa len cap) k (H2 k hk) w.heap.size _ hL2 g1
  have lk1 := lies_kids hL2
  have lk2 := lies_kids hM2
  generalize hw2 : ((w.alloc (.cells (pa p (.slice oa len cap)) 44)).alloc (.cells (pa q (.slice oa' len' cap')) 44)) = w2 at *
  have CA1 := fun (w' : World) (hb : Below w2.heap.size w2 w') => Lib.hid (all_calls1 (w.heap.size + 1) (fun k => Pr.seenB k q) p.kids oa cap w' (fun k hk => (F1 k hk).later hb) (by rw [hp]; exact lk1.later hb (Nat.le_refl _)))
  have CA2 := fun (w' : World) (hb : Below w2.heap.size w2 w') => Lib.hid (all_calls2 w.heap.size (fun k => Pr.seenB p k) q.kids oa' cap' w' (fun k hk => (F2 k hk).later hb) (by rw [hq]; exact lk2.later hb (Nat.le_refl _)))
  have CE1 := fun (w' : World) (hb : Below w2.heap.size w2 w') => Lib.hid (contains_calls1 (w.heap.size + 1) (fun k => Pr.seenB k q) p.kids oa cap w' (fun k hk => (F1 k hk).later hb) (by rw [hp]; exact lk1.later hb (Nat.le_refl _)))
  have CE2 := fun (w' : World) (hb : Below w2.heap.size w2 w') => Lib.hid (contains_calls2 w.heap.size (fun k => Pr.seenB p k) q.kids oa' cap' w' (fun k hk => (F2 k hk).later hb) (by rw [hq]; exact lk2.later hb (Nat.le_refl _)))
  simp only [hp, hq] at CA1 CA2 CE1 CE2
  subst hw2
  have G1 := Lib.hid g1
  have G2 := Lib.hid g2
  clear g1 g2 F1 F2 lk1 lk2 hL2 hM2 hL hM H1 H2
  have HE := Lib.hid (show Pr.listsB p q = (((decide (p.op = 9) && p.kids.all fun k => Pr.seenB k q) || (decide (p.op = 8) && p.kids.any fun k => Pr.seenB k q)) || ((decide (q.op = 8) && q.kids.all fun k => Pr.seenB p k) || (decide (q.op = 9) && q.kids.any fun k => Pr.seenB p k))) from rfl)
  generalize Pr.listsB p q = res at *
  generalize (p.kids.all fun k => Pr.seenB k q) = x1 at *
  generalize (q.kids.all fun k => Pr.seenB p k) = y1 at *
  generalize (p.kids.any fun k => Pr.seenB k q) = x2 at *
  generalize (q.kids.any fun k => Pr.seenB p k) = y2 at *
  clear hp hq
  obtain ⟨op, t, n, x, y, kids⟩ := p
  obtain ⟨op', t', n', x', y', kids'⟩ := q
  simp only [pa, pv, Pr.text_node, Pr.op_node, Pr.n_node, Pr.x_node, Pr.y_node] at *
  have B0 := Lib.hid (Below.refl (((w.alloc (.cells #[.int .i64 op, .string t, .int .i64 n, .complex .f64 x y, .slice oa len cap] 44)).alloc (.cells #[.int .i64 op', .string t', .int .i64 n', .complex .f64 x' y', .slice oa' len' cap'] 44)).heap.size) ((w.alloc (.cells #[.int .i64 op, .string t, .int .i64 n, .complex .f64 x y, .slice oa len cap] 44)).alloc (.cells #[.int .i64 op', .string t', .int .i64 n', .complex .f64 x' y', .slice oa' len' cap'] 44)))
  have hop : op = 9 ∨ op = 8 ∨ ((op == 9) = false ∧ (op == 8) = false) := by simp; omega
  have hop' : op' = 8 ∨ op' = 9 ∨ ((op' == 8) = false ∧ (op' == 9) = false) := by simp; omega
  rcases hop with rfl | rfl | ⟨n9, n8⟩
  · rcases hop' with rfl | rfl | ⟨m8, m9⟩
    · clear CE1 CE2
      go_enter Tryz.func212, Tryz.ntmps212
      go_wp2_with fail
      refine (CA1 _ B0.out).out.mono ?_; rintro e w3 ⟨rfl, hb0⟩
      have B1 := Lib.hid (B0.out.trans (hb0.mono B0.out.size))
      have G1 := Lib.hid (G1.out.below hb0 G1.out.lt)
      have G2 := Lib.hid (G2.out.below hb0 G2.out.lt)
      clear hb0
      have l0 := G1.out.cell
      have m0 := G2.out.cell
      have z0 := G1.out.lt
      have u0 := G2.out.lt
      cases x1
      · go_wp2_with fail
        refine (CA2 _ B1.out).out.mono ?_; rintro e w4 ⟨rfl, hb1⟩
        have B2 := Lib.hid (B1.out.trans (hb1.mono B1.out.size))
        have G1 := Lib.hid (G1.out.below hb1 G1.out.lt)
        have G2 := Lib.hid (G2.out.below hb1 G2.out.lt)
        clear hb1
        have l1 := G1.out.cell
        have m1 := G2.out.cell
        have z1 := G1.out.lt
        have u1 := G2.out.lt
        cases y1
        · go_wp2_with fail
          go_ret
          exact ⟨ret_bool (by rw [HE.out]; (try simp only [beq_eq_false_iff_ne, ne_eq] at *); (try simp [*])), below_new (below_new B2.out)⟩
        · go_wp2_with fail
          go_ret
          exact ⟨ret_bool (by rw [HE.out]; (try simp only [beq_eq_false_iff_ne, ne_eq] at *); (try simp [*])), below_new (below_new B2.out)⟩
      · go_wp2_with fail
        go_ret
        exact ⟨ret_bool (by rw [HE.out]; (try simp only [beq_eq_false_iff_ne, ne_eq] at *); (try simp [*])), below_new (below_new B1.out)⟩
    · clear CA2 CE1
      go_enter Tryz.func212, Tryz.ntmps212
      go_wp2_with fail
      refine (CA1 _ B0.out).out.mono ?_; rintro e w3 ⟨rfl, hb0⟩
      have B1 := Lib.hid (B0.out.trans (hb0.mono B0.out.size))
      have G1 := Lib.hid (G1.out.below hb0 G1.out.lt)
      have G2 := Lib.hid (G2.out.below hb0 G2.out.lt)
      clear hb0
      have l0 := G1.out.cell
      have m0 := G2.out.cell
      have z0 := G1.out.lt
      have u0 := G2.out.lt
      cases x1
      · go_wp2_with fail
        refine (CE2 _ B1.out).out.mono ?_; rintro e w4 ⟨rfl, hb1⟩
        have B2 := Lib.hid (B1.out.trans (hb1.mono B1.out.size))
        have G1 := Lib.hid (G1.out.below hb1 G1.out.lt)
        have G2 := Lib.hid (G2.out.below hb1 G2.out.lt)
        clear hb1
        have l1 := G1.out.cell
        have m1 := G2.out.cell
        have z1 := G1.out.lt
        have u1 := G2.out.lt
        cases y2
        · go_wp2_with fail
          go_ret
          exact ⟨ret_bool (by rw [HE.out]; (try simp only [beq_eq_false_iff_ne, ne_eq] at *); (try simp [*])), below_new (below_new B2.out)⟩
        · go_wp2_with fail
          go_ret
          exact ⟨ret_bool (by rw [HE.out]; (try simp only [beq_eq_false_iff_ne, ne_eq] at *); (try simp [*])), below_new (below_new B2.out)⟩
      · go_wp2_with fail
        go_ret
        exact ⟨ret_bool (by rw [HE.out]; (try simp only [beq_eq_false_iff_ne, ne_eq] at *); (try simp [*])), below_new (below_new B1.out)⟩
    · clear CA2 CE1 CE2
      go_enter Tryz.func212, Tryz.ntmps212
      go_wp2_with fail
      refine (CA1 _ B0.out).out.mono ?_; rintro e w3 ⟨rfl, hb0⟩
      have B1 := Lib.hid (B0.out.trans (hb0.mono B0.out.size))
      have G1 := Lib.hid (G1.out.below hb0 G1.out.lt)
      have G2 := Lib.hid (G2.out.below hb0 G2.out.lt)
      clear hb0
      have l0 := G1.out.cell
      have m0 := G2.out.cell
      have z0 := G1.out.lt
      have u0 := G2.out.lt
      cases x1
      · go_wp2_with fail
        go_ret
        exact ⟨ret_bool (by rw [HE.out]; (try simp only [beq_eq_false_iff_ne, ne_eq] at *); (try simp [*])), below_new (below_new B1.out)⟩
      · go_wp2_with fail
        go_ret
        exact ⟨ret_bool (by rw [HE.out]; (try simp only [beq_eq_false_iff_ne, ne_eq] at *); (try simp [*])), below_new (below_new B1.out)⟩
  · rcases hop' with rfl | rfl | ⟨m8, m9⟩
    · clear CA1 CE2
      go_enter Tryz.func212, Tryz.ntmps212
      go_wp2_with fail
      refine (CA2 _ B0.out).out.mono ?_; rintro e w3 ⟨rfl, hb0⟩
      have B1 := Lib.hid (B0.out.trans (hb0.mono B0.out.size))
      have G1 := Lib.hid (G1.out.below hb0 G1.out.lt)
      have G2 := Lib.hid (G2.out.below hb0 G2.out.lt)
      clear hb0
      have l0 := G1.out.cell
      have m0 := G2.out.cell
      have z0 := G1.out.lt
      have u0 := G2.out.lt
      cases y1
      · go_wp2_with fail
        refine (CE1 _ B1.out).out.mono ?_; rintro e w4 ⟨rfl, hb1⟩
        have B2 := Lib.hid (B1.out.trans (hb1.mono B1.out.size))
        have G1 := Lib.hid (G1.out.below hb1 G1.out.lt)
        have G2 := Lib.hid (G2.out.below hb1 G2.out.lt)
        clear hb1
        have l1 := G1.out.cell
        have m1 := G2.out.cell
        have z1 := G1.out.lt
        have u1 := G2.out.lt
        cases x2
        · go_wp2_with fail
          go_ret
          exact ⟨ret_bool (by rw [HE.out]; (try simp only [beq_eq_false_iff_ne, ne_eq] at *); (try simp [*])), below_new (below_new B2.out)⟩
        · go_wp2_with fail
          go_ret
          exact ⟨ret_bool (by rw [HE.out]; (try simp only [beq_eq_false_iff_ne, ne_eq] at *); (try simp [*])), below_new (below_new B2.out)⟩
      · go_wp2_with fail
        go_ret
        exact ⟨ret_bool (by rw [HE.out]; (try simp only [beq_eq_false_iff_ne, ne_eq] at *); (try simp [*])), below_new (below_new B1.out)⟩
    · clear CA1 CA2
      go_enter Tryz.func212, Tryz.ntmps212
      go_wp2_with fail
      refine (CE1 _ B0.out).out.mono ?_; rintro e w3 ⟨rfl, hb0⟩
      have B1 := Lib.hid (B0.out.trans (hb0.mono B0.out.size))
      have G1 := Lib.hid (G1.out.below hb0 G1.out.lt)
      have G2 := Lib.hid (G2.out.below hb0 G2.out.lt)
      clear hb0
      have l0 := G1.out.cell
      have m0 := G2.out.cell
      have z0 := G1.out.lt
      have u0 := G2.out.lt
      cases x2
      · go_wp2_with fail
        refine (CE2 _ B1.out).out.mono ?_; rintro e w4 ⟨rfl, hb1⟩
        have B2 := Lib.hid (B1.out.trans (hb1.mono B1.out.size))
        have G1 := Lib.hid (G1.out.below hb1 G1.out.lt)
        have G2 := Lib.hid (G2.out.below hb1 G2.out.lt)
        clear hb1
        have l1 := G1.out.cell
        have m1 := G2.out.cell
        have z1 := G1.out.lt
        have u1 := G2.out.lt
        cases y2
        · go_wp2_with fail
          go_ret
          exact ⟨ret_bool (by rw [HE.out]; (try simp only [beq_eq_false_iff_ne, ne_eq] at *); (try simp [*])), below_new (below_new B2.out)⟩
        · go_wp2_with fail
          go_ret
          exact ⟨ret_bool (by rw [HE.out]; (try simp only [beq_eq_false_iff_ne, ne_eq] at *); (try simp [*])), below_new (below_new B2.out)⟩
      · go_wp2_with fail
        go_ret
        exact ⟨ret_bool (by rw [HE.out]; (try simp only [beq_eq_false_iff_ne, ne_eq] at *); (try simp [*])), below_new (below_new B1.out)⟩
    · clear CA1 CA2 CE2
      go_enter Tryz.func212, Tryz.ntmps212
      go_wp2_with fail
      refine (CE1 _ B0.out).out.mono ?_; rintro e w3 ⟨rfl, hb0⟩
      have B1 := Lib.hid (B0.out.trans (hb0.mono B0.out.size))
      have G1 := Lib.hid (G1.out.below hb0 G1.out.lt)
      have G2 := Lib.hid (G2.out.below hb0 G2.out.lt)
      clear hb0
      have l0 := G1.out.cell
      have m0 := G2.out.cell
      have z0 := G1.out.lt
      have u0 := G2.out.lt
      cases x2
      · go_wp2_with fail
        go_ret
        exact ⟨ret_bool (by rw [HE.out]; (try simp only [beq_eq_false_iff_ne, ne_eq] at *); (try simp [*])), below_new (below_new B1.out)⟩
      · go_wp2_with fail
        go_ret
        exact ⟨ret_bool (by rw [HE.out]; (try simp only [beq_eq_false_iff_ne, ne_eq] at *); (try simp [*])), below_new (below_new B1.out)⟩
  · rcases hop' with rfl | rfl | ⟨m8, m9⟩
    · clear CA1 CE1 CE2
      go_enter Tryz.func212, Tryz.ntmps212
      go_wp2_with fail
      refine (CA2 _ B0.out).out.mono ?_; rintro e w3 ⟨rfl, hb0⟩
      have B1 := Lib.hid (B0.out.trans (hb0.mono B0.out.size))
      have G1 := Lib.hid (G1.out.below hb0 G1.out.lt)
      have G2 := Lib.hid (G2.out.below hb0 G2.out.lt)
      clear hb0
      have l0 := G1.out.cell
      have m0 := G2.out.cell
      have z0 := G1.out.lt
      have u0 := G2.out.lt
      cases y1
      · go_wp2_with fail
        go_ret
        exact ⟨ret_bool (by rw [HE.out]; (try simp only [beq_eq_false_iff_ne, ne_eq] at *); (try simp [*])), below_new (below_new B1.out)⟩
      · go_wp2_with fail
        go_ret
        exact ⟨ret_bool (by rw [HE.out]; (try simp only [beq_eq_false_iff_ne, ne_eq] at *); (try simp [*])), below_new (below_new B1.out)⟩
    · clear CA1 CA2 CE1
      go_enter Tryz.func212, Tryz.ntmps212
      go_wp2_with fail
      refine (CE2 _ B0.out).out.mono ?_; rintro e w3 ⟨rfl, hb0⟩
      have B1 := Lib.hid (B0.out.trans (hb0.mono B0.out.size))
      have G1 := Lib.hid (G1.out.below hb0 G1.out.lt)
      have G2 := Lib.hid (G2.out.below hb0 G2.out.lt)
      clear hb0
      have l0 := G1.out.cell
      have m0 := G2.out.cell
      have z0 := G1.out.lt
      have u0 := G2.out.lt
      cases y2
      · go_wp2_with fail
        go_ret
        exact ⟨ret_bool (by rw [HE.out]; (try simp only [beq_eq_false_iff_ne, ne_eq] at *); (try simp [*])), below_new (below_new B1.out)⟩
      · go_wp2_with fail
        go_ret
        exact ⟨ret_bool (by rw [HE.out]; (try simp only [beq_eq_false_iff_ne, ne_eq] at *); (try simp [*])), below_new (below_new B1.out)⟩
    · clear CA1 CA2 CE1 CE2
      go_enter Tryz.func212, Tryz.ntmps212
      go_wp2_with fail
      go_ret
      exact ⟨ret_bool (by rw [HE.out]; (try simp only [beq_eq_false_iff_ne, ne_eq] at *); (try simp [*])), below_new (below_new B0.out)⟩
end Go.Proofs.YthbjgfennclidaaGreat
/- Which filter is seen in which: the code's byOp, walked. -/
namespace Go.Proofs.YthbjgfennclidaaGreat
set_option linter.unusedVariables false
set_option linter.unusedSimpArgs false
set_option maxRecDepth 100000
open Go.RowKit
theorem Pr.part_not {t : ByteArray} {n : Int} {x y k : Nat} (h : Pr.partB 10 t n x y k = true) : k = 1 := by
  simp [Pr.partB] at h; exact h.1
set_option maxRecDepth 100000 in
set_option maxHeartbeats 4000000 in
theorem byOp_calls (p q : Pr) (H : ∀ a ∈ p.kids, ∀ b ∈ q.kids, CSeen b a) (v v' : Value) (w : World) (hL : LP w p v) (hM : LP w q v') (hpa : p.all = true) (hqa : q.all = true) :
    Calls Tryz.prog 213 #[pv p v, pv q v'] w fun e w' => e = .returned (.bool (Pr.restB p q)) ∧ Below w.heap.size w w' := by
  obtain ⟨oa, cap, b, o, V, rfl, ht, hl, hc, hn, hcell, hrec⟩ := lies_slice hL
  obtain ⟨oa', cap', b', o', V', rfl, ht', hl', hc', hn', hcell', hrec'⟩ := lies_slice hM
  obtain ⟨op, t, n, x, y, kids⟩ := p
  obtain ⟨op', t', n', x', y', kids'⟩ := q
  simp only [pv, Pr.kids_node, Pr.text_node, Pr.op_node, Pr.n_node, Pr.x_node, Pr.y_node] at *
  have HE := Lib.hid (Pr.restB_node op t n x y kids op' t' n' x' y' kids')
  generalize Pr.restB (Pr.node op t n x y kids) (Pr.node op' t' n' x' y' kids') = res at *
  simp only [Pr.all, Bool.and_eq_true] at hpa hqa
  have hp1 := hpa.1
  have hq1 := hqa.1
  clear hpa hqa hL hM hl hl'
  unfold maxLen at hc hc'
  have HC := Lib.hid hcell
  have HR := Lib.hid hrec
  have HN := Lib.hid hn
  have HC' := Lib.hid hcell'
  have HR' := Lib.hid hrec'
  have HN' := Lib.hid hn'
  have HH := Lib.hid H
  have HT := Lib.hid ht
  have HT' := Lib.hid ht'
  have P1 := Lib.hid hp1
  have P2 := Lib.hid hq1
  clear hcell hrec hn hcell' hrec' hn' H ht ht' hp1 hq1
  have G1 := Lib.hid ((Has.new w #[.int .i64 op, .string t, .int .i64 n, .complex .f64 x y, .slice oa kids.length cap] 44).alloc (.cells #[.int .i64 op', .string t', .int .i64 n', .complex .f64 x' y', .slice oa' kids'.length cap'] 44))
  have G2 := Lib.hid ((Own.newAt (w.alloc (.cells #[.int .i64 op, .string t, .int .i64 n, .complex .f64 x y, .slice oa kids.length cap] 44)) #[.int .i64 op', .string t', .int .i64 n', .complex .f64 x' y', .slice oa' kids'.length cap'] 44 (b := w.heap.size + 1) (by simp)).has)
  have BE := Lib.hid (((Below.refl w.heap.size w).alloc (Nat.le_refl _) (.cells #[.int .i64 op, .string t, .int .i64 n, .complex .f64 x y, .slice oa kids.length cap] 44)).alloc (by simp) (.cells #[.int .i64 op', .string t', .int .i64 n', .complex .f64 x' y', .slice oa' kids'.length cap'] 44))
  have f1 : ∀ x y, (FloatKind.f64.format.order x y == some .eq) = feq x y := fun _ _ => rfl
  by_cases ho : op = op'
  · subst ho
    have hop : op = 4 ∨ op = 5 ∨ op = 6 ∨ op = 7 ∨ op = 10 ∨ ((op == 4) = false ∧ (op == 5) = false ∧ (op == 6) = false ∧ (op == 7) = false ∧ (op == 10) = false) := by simp; omega
    rcases hop with rfl | rfl | rfl | rfl | rfl | ⟨n4, n5, n6, n7, n10⟩
    · have C := fun w => Lib.hid (prefix_calls t t' w HT.out HT'.out)
      go_enter Tryz.func213, Tryz.ntmps213
      go_wp2_with (go_at_call 166; refine (C _).out.mono ?_; rintro e w' ⟨rfl, rfl⟩)
      go_ret
      exact ⟨ret_bool (by rw [HE.out]; simp), BE.out⟩
    · go_enter Tryz.func213, Tryz.ntmps213
      go_wp2_with fail
      go_ret
      exact ⟨ret_bool (by rw [HE.out]; simp), BE.out⟩
    · go_enter Tryz.func213, Tryz.ntmps213
      go_wp2_with fail
      go_ret
      exact ⟨ret_bool (by rw [HE.out]; simp), BE.out⟩
    · go_enter Tryz.func213, Tryz.ntmps213
      go_wp2_with fail
      all_goals
        go_ret
        exact ⟨ret_bool (by rw [HE.out]; simp_all), BE.out⟩
    · have e1 := Pr.part_not P1.out
      have e2 := Pr.part_not P2.out
      obtain ⟨a, rfl⟩ := List.length_eq_one_iff.1 e1
      obtain ⟨c, rfl⟩ := List.length_eq_one_iff.1 e2
      clear e1 e2
      simp only [List.length_cons, List.length_nil] at *
      obtain ⟨rfl, hB⟩ := HN.out (by omega)
      obtain ⟨rfl, hB'⟩ := HN'.out (by omega)
      obtain ⟨oq, cq, hV⟩ := lies_val (HR.out 0 a rfl)
      obtain ⟨oq', cq', hV'⟩ := lies_val (HR'.out 0 c rfl)
      obtain ⟨c0, c1, c2, c3, c4⟩ := pc_cells (w := ((w.alloc (.cells #[.int .i64 10, .string t, .int .i64 n, .complex .f64 x y, .slice (some ⟨b, o, none⟩) (0 + 1) cap] 44)).alloc (.cells #[.int .i64 10, .string t', .int .i64 n', .complex .f64 x' y', .slice (some ⟨b', o', none⟩) (0 + 1) cap'] 44))) (fun j u hu => (BE.out.cell (p := ⟨b, o + 0 * 5 + j, none⟩) hB).trans (HC.out 0 a rfl j u hu))
      obtain ⟨d0, d1, d2, d3, d4⟩ := pc_cells (w := ((w.alloc (.cells #[.int .i64 10, .string t, .int .i64 n, .complex .f64 x y, .slice (some ⟨b, o, none⟩) (0 + 1) cap] 44)).alloc (.cells #[.int .i64 10, .string t', .int .i64 n', .complex .f64 x' y', .slice (some ⟨b', o', none⟩) (0 + 1) cap'] 44))) (fun j u hu => (BE.out.cell (p := ⟨b', o' + 0 * 5 + j, none⟩) hB').trans (HC'.out 0 c rfl j u hu))
      have L0 := (HR.out 0 a rfl).later BE.out (Nat.le_refl _)
      have M0 := (HR'.out 0 c rfl).later BE.out (Nat.le_refl _)
      rw [hV] at c4 L0
      rw [hV'] at d4 M0
      have CC := fun dd os => HH.out a (by simp) c (by simp) (.slice oq' c.kids.length cq') (.slice oq a.kids.length cq) (Sort.grow (redrawn ((w.alloc (.cells #[.int .i64 10, .string t, .int .i64 n, .complex .f64 x y, .slice (some ⟨b, o, none⟩) (0 + 1) cap] 44)).alloc (.cells #[.int .i64 10, .string t', .int .i64 n', .complex .f64 x' y', .slice (some ⟨b', o', none⟩) (0 + 1) cap'] 44)) dd) os) (M0.later (below_regrown _ _ _) (Nat.le_refl _)) (L0.later (below_regrown _ _ _) (Nat.le_refl _))
      have r0 := fun dd os => cell_regrown c0 dd os
      have r1 := fun dd os => cell_regrown c1 dd os
      have r2 := fun dd os => cell_regrown c2 dd os
      have r3 := fun dd os => cell_regrown c3 dd os
      have r4 := fun dd os => cell_regrown c4 dd os
      have s0 := fun dd os => cell_regrown d0 dd os
      have s1 := fun dd os => cell_regrown d1 dd os
      have s2 := fun dd os => cell_regrown d2 dd os
      have s3 := fun dd os => cell_regrown d3 dd os
      have s4 := fun dd os => cell_regrown d4 dd os
      have LA := fun dd os o => G1.out.regrown dd os o
      have LB := fun dd os o => G2.out.regrown dd os o
      have l1 := G1.out.cell
      have l2 := G2.out.cell
      have m3 := fun dd os => Lib.hid (Calls.regrown_of (CC dd os))
      have E := Lib.hid (show Pr.kidB [a] [c] = Pr.seenB c a from rfl)
      generalize Pr.seenB c a = rq at *
      clear hV hV' L0 M0 CC
      simp only [Nat.zero_mul, Nat.add_zero] at r0 r1 r2 r3 r4 s0 s1 s2 s3 s4
      clear c0 c1 c2 c3 c4 d0 d1 d2 d3 d4
      go_enter Tryz.func213, Tryz.ntmps213
      go_wp2_with fail
      refine wp_region_quiet_below (by kernel_rfl) (by kernel_rfl) ?_
      repeat (first | go_big_quiet_step ((with_reducible exact (m3 _ _).out)) | quiet_step (with_reducible exact (m3 _ _).out))
      refine wpQuiet_nil ?_
      intro w7 hw'
      have hb' := Lib.hid (regrown_below hw')
      clear hw' m3 r0 r1 r2 r3 r4 s0 s1 s2 s3 s4 LA LB
      go_wp2_with fail
      go_ret
      exact ⟨ret_bool (by rw [HE.out, E.out]; simp), below_new (below_new hb'.out)⟩
    · go_enter Tryz.func213, Tryz.ntmps213
      go_wp2_with fail
      go_ret
      exact ⟨ret_bool (by rw [HE.out]; simp at n4 n5 n6 n7 n10; simp [n4, n5, n6, n7, n10]), BE.out⟩
  · have hob : (op == op') = false := by simp [ho]
    go_enter Tryz.func213, Tryz.ntmps213
    go_wp2_with fail
    go_ret
    exact ⟨ret_bool (by rw [HE.out]; simp [ho]), BE.out⟩
end Go.Proofs.YthbjgfennclidaaGreat
