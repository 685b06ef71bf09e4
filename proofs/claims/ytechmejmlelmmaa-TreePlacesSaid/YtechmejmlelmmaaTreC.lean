/- tree.Place: the code's walk. -/
import Derived.Test.YtechmejmlelmmaaTreB
import Derived.Test.YtechmejmlelmmaaConv
import Derived.Test.YtechmejmlelmmaaAdd
import Derived.Laws.MakeOwn
import Derived.Laws.OwnMore
namespace Go.Proofs.Ytechmejmlelmmaa
set_option linter.unusedVariables false
set_option linter.unusedSimpArgs false
set_option maxRecDepth 100000
open Go.RowKit

theorem info_int : (Try.prog.info? 3).map (fun i => (i.zero, i.size, i.bytes)) = some (some (.int .i64 0), 1, 8) := by kernel_rfl
theorem info_node : (Try.prog.info? 32).map (fun i => (i.zero, i.size, i.bytes)) = some (some (.agg #[.int .i64 0, .int .i64 0]), 2, 16) := by kernel_rfl
def plC (l : List Nat) : List Value := l.map fun j => .int .i64 (j : Nat)
def NdA (a : Array Value) (n : Nat) (s : Nat → Nat × Nat) : Prop := a.size = n * 2 ∧ ∀ k, k < n → a[k * 2]? = some (.int .i64 ((s k).1 : Nat)) ∧ a[k * 2 + 1]? = some (.int .i64 ((s k).2 : Nat))
theorem made_zero (n k : Nat) (h : k < n) : (madeCells #[.int .i64 0, .int .i64 0] n)[k]? = some (.int .i64 0) := by
  unfold madeCells
  rw [Array.getElem?_map, Array.getElem?_range, if_pos h]
  show some _ = _
  have h2 : k % 2 = 0 ∨ k % 2 = 1 := by omega
  show some ((#[Value.int .i64 0, Value.int .i64 0] : Array Value)[k % 2]!) = _
  rcases h2 with h2 | h2 <;> rw [h2] <;> rfl
theorem NdA.made (n : Nat) : NdA (madeCells #[.int .i64 0, .int .i64 0] (n * 2)) n (fun _ => (0, 0)) :=
  ⟨size_madeCells _ _, fun k hk => ⟨made_zero _ _ (by omega), made_zero _ _ (by omega)⟩⟩
theorem NdA.put {a : Array Value} {n : Nat} {s : Nat → Nat × Nat} (h : NdA a n s) {i : Nat} (hi : i < n) (x : Nat × Nat) : NdA ((a.setIfInBounds (i * 2) (.int .i64 (x.1 : Nat))).setIfInBounds (i * 2 + 1) (.int .i64 (x.2 : Nat))) n (trPut s i x) := by
  obtain ⟨h1, h2⟩ := h
  refine ⟨by simpa using h1, fun k hk => ?_⟩
  obtain ⟨a1, a2⟩ := h2 k hk
  unfold trPut
  by_cases e : k = i
  · subst e
    rw [if_pos rfl]
    constructor
    · rw [Array.getElem?_setIfInBounds_ne (by omega), Array.getElem?_setIfInBounds_self_of_lt (by omega)]
    · rw [Array.getElem?_setIfInBounds_self_of_lt (by simp; omega)]
  · rw [if_neg e]
    constructor
    · rw [Array.getElem?_setIfInBounds_ne (by omega), Array.getElem?_setIfInBounds_ne (by omega)]; exact a1
    · rw [Array.getElem?_setIfInBounds_ne (by omega), Array.getElem?_setIfInBounds_ne (by omega)]; exact a2
theorem NdA.lies {a : Array Value} {n : Nat} {s : Nat → Nat × Nat} {w : World} {b : Nat} {t : TypeId} (h : NdA a n s) (ho : Own w b a t) : NdW w n s b :=
  ⟨ho.lt, fun k hk => by rw [ho.cell]; exact (h.2 k hk).1, fun k hk => by rw [ho.cell]; exact (h.2 k hk).2⟩

/-- What the loop keeps. -/
structure PlcW (w : World) (B r n : Nat) (inn : Nat → Nat → Bool) (k : Nat) (pv : Value) (wr : World) : Prop where
  nd : ∃ a, Own wr B a 32 ∧ NdA a n (trS r inn k)
  row : wr.ownsRow (B + 1) 3 1 pv (trPl r k).length (plC (trPl r k))
  bel : Below w.heap.size w wr
  hB : w.heap.size ≤ B
section
variable {w wr W w3 w5 : World} {B r n k g cap' : Nat} {inn : Nat → Nat → Bool} {pv : Value}
theorem PlcW.later (h : PlcW w B r n inn k pv wr) (hb : Below wr.heap.size wr W) : PlcW w B r n inn k pv W := by
  obtain ⟨⟨a, h1, h2⟩, h3, h4, h5⟩ := h
  exact ⟨⟨a, h1.later hb, h2⟩, ownsRow_below h3 hb, h4.trans (hb.mono h4.size), h5⟩
theorem PlcW.same (h : PlcW w B r n inn k pv wr) (e : k = r) : PlcW w B r n inn (k + 1) pv wr := by
  obtain ⟨h1, h2, h3, h4⟩ := h
  exact ⟨by unfold trS; rw [if_pos e]; exact h1, by unfold trPl; rw [if_pos e]; exact h2, h3, h4⟩
theorem PlcW.row2 (h : PlcW w B r n inn k pv wr) (a b v : Value) : (((wr.setCell ⟨B, k * 2, none⟩ a).setCell ⟨B, k * 2 + 1, none⟩ b).alloc (.cells #[v] 3)).ownsRow (B + 1) 3 1 pv (trPl r k).length (plC (trPl r k)) :=
  (ownsRow_setCell_below (ownsRow_setCell_below h.row (by simp) _) (by simp) _).alloc _
theorem PlcW.step (h : PlcW w B r n inn k pv wr) (hk : k < n) (hne : k ≠ r) {x : Nat × Nat} (hx : x = trNode (trS r inn k) (trBest r (trS r inn k) (inn k) k))
    (hown : w5.ownsRow (B + 1) 3 1 (.slice (some ⟨g, 0, none⟩) ((trPl r k).length + 1) cap') ((trPl r k).length + 1) (plC (trPl r k) ++ [.int .i64 (k : Nat)]))
    (hgrow : (((wr.setCell ⟨B, k * 2, none⟩ (.int .i64 (x.1 : Nat))).setCell ⟨B, k * 2 + 1, none⟩ (.int .i64 (x.2 : Nat))).alloc (.cells #[.int .i64 (k : Nat)] 3)).grownBy w5 pv.ownBlock) :
    PlcW w B r n inn (k + 1) (.slice (some ⟨g, 0, none⟩) ((trPl r k).length + 1) cap') w5 := by
  obtain ⟨⟨a, h1, h2⟩, h3, h4, h5⟩ := h
  have hn1 : some B ≠ pv.ownBlock := own_ne h3 (by omega)
  refine ⟨⟨_, ((((h1.set (k * 2) (.int .i64 (x.1 : Nat))).set (k * 2 + 1) (.int .i64 (x.2 : Nat))).alloc _).grown hgrow hn1), ?_⟩, ?_, ?_, h5⟩
  · rw [show trS r inn (k + 1) = (if k = r then trS r inn k else trPut (trS r inn k) k (trNode (trS r inn k) (trBest r (trS r inn k) (inn k) k))) from rfl, if_neg hne, ← hx]
    exact h2.put hk x
  · rw [show trPl r (k + 1) = (if k = r then trPl r k else trPl r k ++ [k]) from rfl, if_neg hne, List.length_append]
    unfold plC at *
    rw [List.map_append]
    exact hown
  · exact ((((h4.setCell (by show _ ≤ B; omega) _).setCell (by show _ ≤ B; omega) _).alloc (by simp [World.setCell]; exact h4.size) _).grown hgrow (by simp [World.setCell]; have := h4.size; omega) (fun j hj => by have := (h3.lt j hj).1; omega))
theorem PlcW.pl (h : PlcW w B r n inn k pv wr) : ∃ oa cap b, pv = .slice oa (trPl r k).length cap ∧ PlW wr (trPl r k) oa b := by
  obtain ⟨oa, cap, g, e, h1, h2, hg⟩ := row_slice h.row
  subst e
  refine ⟨oa, cap, g, rfl, fun h0 => ⟨(hg h0).1, (hg h0).2.2⟩, fun i j hi => ?_⟩
  have hlt := (List.getElem?_eq_some_iff.1 hi).1
  obtain ⟨rfl, _, _⟩ := hg (by omega)
  have := h.row.cellAt i (by omega)
  rw [this]
  unfold plC
  rw [List.getElem?_map, hi]; rfl
end
theorem plc_start {w w1 : World} (hb : Below w.heap.size w w1) (r n : Nat) (inn : Nat → Nat → Bool) :
    PlcW w w1.heap.size r n inn 0 (.slice (some ⟨w1.heap.size + 1, 0, none⟩) 1 1) ((w1.alloc (.cells (madeCells #[.int .i64 0, .int .i64 0] (n * 2)) 32)).alloc (.cells #[.int .i64 (r : Nat)] 3)) := by
  refine ⟨⟨_, (Own.new w1 _ _).alloc _, NdA.made n⟩, ?_, (hb.alloc hb.size _).alloc (by simp; have := hb.size; omega) _, hb.size⟩
  have := World.ownsRow_lit (e := 3) (size := 1) (base := w1.heap.size + 1) (w1.alloc (.cells (madeCells #[.int .i64 0, .int .i64 0] (n * 2)) 32)) #[.int .i64 (r : Nat)] 1 (by simp) (by decide) (by rfl)
  simpa [trPl, plC] using this

theorem mkNode (n : Nat) (hn : n ≤ 1000) (w : World) : (Instr.makeSlice 27 (.int .i64 (n : Nat)) (.int .i64 (n : Nat))).run Try.prog w = .ok (.slice (some ⟨w.heap.size, 0, none⟩) n n) (w.alloc (.cells (madeCells #[.int .i64 0, .int .i64 0] (n * 2)) 32)) := by
  obtain ⟨i0, hi, hz0, hz1, hz2⟩ := info_parts info_node
  have := run_makeSlice (P := Try.prog) w 27 32 i0 _ Try.underlying27 hi hz0 .i64 .i64 (n : Int) (n : Int) (by omega) (Int.le_refl _) (by rw [hz1]; omega) (by rw [hz2]; omega) (by omega)
  rw [hz1] at this
  exact this

/-- What Place tells. -/
def PlcOut (l : List Pr) (w : World) (e : Ending) (w' : World) : Prop :=
  (trRoot l = none ∧ e = .returned (.slice none 0 0) ∧ Below w.heap.size w w') ∨ ∃ r b, trRoot l = some r ∧ e = .returned (.slice (some ⟨b, 0, none⟩) l.length l.length) ∧ NdW w' l.length (trSf l r) b ∧ Below w.heap.size w w'
abbrev pA (p : Pr) (v : Value) : Array Value := #[.int .i64 p.op, .string p.text, .int .i64 p.n, .complex .f64 p.x p.y, v]
def PlcRel (w : World) (B r n : Nat) (inn : Nat → Nat → Bool) (j pv : Value) (wr : World) : Prop :=
  ∃ k : Nat, k ≤ n ∧ j = .int .i64 k ∧ Hid (PlcW w B r n inn k pv wr)

set_option maxRecDepth 100000 in
set_option maxHeartbeats 8000000 in
theorem treePlace_calls (l : List Pr) (oa : Option Addr) (cap : Nat) (w : World) (hS : ∀ k ∈ l, k.size ≤ 1000) (hL : LK w l (.slice oa l.length cap)) :
    Calls Try.prog 8 #[.slice oa l.length cap] w (PlcOut l w) := by
  have CR := Lib.hid (rootOf_calls l oa cap w hS hL)
  unfold rootV at CR
  cases hr : trRoot l with
  | none =>
    rw [hr] at CR
    have HR := Lib.hid hr
    clear hr hL hS
    generalize l.length = n at *
    go_enter Try.func8, Try.ntmps8
    go_wp2_with (go_at_call 13; refine CR.out.mono ?_; rintro e w' ⟨rfl, hb⟩)
    go_ret
    exact .inl ⟨HR.out, rfl, hb⟩
  | some r =>
    rw [hr] at CR
    obtain ⟨h8, hmay, hrn, -, -⟩ := trRoot_some hr
    have HLK := Lib.hid hL
    obtain ⟨_, _, ba, o, V, e1, -, hl, hc, hn0, hcell, hrec⟩ := lies_slice hL
    cases e1
    simp only [Pr.kids_node] at *
    unfold maxLen at hc
    have HC := Lib.hid hcell
    have HRc := Lib.hid hrec
    have HN := Lib.hid hn0
    have HS := Lib.hid hS
    have HRT := Lib.hid hr
    have HIR := Lib.hid (fun i hi => inL_root (i := i) hr hi)
    clear hr hL hcell hrec hn0 hS hmay
    have HSF := Lib.hid (show trSf l r = trS r (inL l) l.length from rfl)
    generalize hn : l.length = n at *
    have HLN := Lib.hid hn
    clear hn
    have hmk := mkNode n (by omega)
    go_enter Try.func8, Try.ntmps8
    go_wp2_with (go_at_call 13; refine CR.out.mono ?_; rintro e w1 ⟨rfl, hb1⟩)
    have PS := Lib.hid (plc_start hb1 r n (inL l))
    have BW1 := hb1.size
    clear hb1 CR
    generalize w1.heap.size = B at *
    go_loopw [23, 6] (fun j pv wr => PlcRel w B r n (inL l) j pv wr) (fun j _ _ => n - (intOf j).toNat)
    case atStart => exact ⟨0, Nat.zero_le _, rfl, PS⟩
    case round =>
      obtain ⟨k, hk, rfl, HP⟩ := hrel
      by_cases hlt : k < n
      · obtain ⟨q, hq⟩ : ∃ q, l[k]? = some q := ⟨_, List.getElem?_eq_getElem (by rw [HLN.out]; exact hlt)⟩
        obtain ⟨rfl, hB2⟩ := HN.out (by omega)
        obtain ⟨od, cd, hV⟩ := lies_val (HRc.out k q hq)
        obtain ⟨c0, c1, c2, c3, c4⟩ := pc_cells (w := wr) (fun i u hu => (HP.out.bel.cell (p := ⟨ba, o + k * 5 + i, none⟩) hB2).trans (HC.out k q hq i u hu))
        have L0 := (HRc.out k q hq).later HP.out.bel (Nat.le_refl _)
        rw [hV] at c4 L0
        have q0 : (0 : Int) ≤ (k : Int) := by omega
        have q1 : (k : Int) < (n : Int) := by omega
        have q2 : (k : Int) + 1 ≤ 9223372036854775807 := by omega
        have HL0 := Lib.hid L0
        have HQ := Lib.hid hq
        have zba : ba < wr.heap.size := Nat.lt_of_lt_of_le hB2 HP.out.bel.size
        clear L0 hV hq
        go_upto_region 8 with fail
        have OF := Lib.hid (Own.new wr #[.int .i64 q.op, .string q.text, .int .i64 q.n, .complex .f64 q.x q.y, .slice od q.kids.length cd] 37)
        have BF := Lib.hid ((Below.refl wr.heap.size wr).alloc (Nat.le_refl _) (.cells #[.int .i64 q.op, .string q.text, .int .i64 q.n, .complex .f64 q.x q.y, .slice od q.kids.length cd] 37))
        clear c0 c1 c2 c3 c4
        revert OF BF
        generalize wr.alloc (.cells #[.int .i64 q.op, .string q.text, .int .i64 q.n, .complex .f64 q.x q.y, .slice od q.kids.length cd] 37) = W
        intro OF BF
        have PW := Lib.hid (HP.out.later BF.out)
        have LW := Lib.hid (HLK.out.later (HP.out.bel.trans (BF.out.mono HP.out.bel.size)) (Nat.le_refl _))
        have LQ := Lib.hid (HL0.out.later BF.out (Nat.le_refl _))
        have lF := OF.out.cell
        have zF := OF.out.lt
        clear BF HL0 HP zba
        by_cases hkr : k = r
        · have hkr' : (k : Int) = (r : Int) := by rw [hkr]
          have HG := Lib.hid (PW.out.same hkr)
          clear hkr OF lF zF
          go_wp2_with fail
          go_roundw
          case rel => exact ⟨k + 1, by omega, by go_num, HG⟩
          case measure => simp [intOf]; omega
        · have hkr' : ((k : Int) != (r : Int)) = true := by rw [bne_iff_ne]; omega
          obtain ⟨oap, capp, bp, e6, hPl⟩ := PW.out.pl
          obtain ⟨a0, ho0, ha0⟩ := PW.out.nd
          have CB := below_calls q (.slice od q.kids.length cd) l (some ⟨ba, o, none⟩) cap n (trS r (inL l) k) B (inL l k) (trPl r k) oap capp bp W LQ.out (by rw [HLN.out]; exact LW.out) (ha0.lies ho0) HLN.out h8 hPl (trPl_lt r n k hrn hk) (by have := trPl_len r k; omega) (fun j => by have := trS_lev r (inL l) k j; omega) (fun j q' hq' => inL_at HQ.out hq') (HS.out q (List.mem_of_getElem? HQ.out)) HS.out
          rw [HLN.out, trLow_is r _ _ (trS_root _ _ _) (HIR.out k hlt)] at CB
          obtain ⟨x, hx⟩ : ∃ x, x = trNode (trS r (inL l) k) (trBest r (trS r (inL l) k) (inL l k) k) := ⟨_, rfl⟩
          rw [← hx, ← e6] at CB
          have HX := Lib.hid hx
          replace CB := Lib.hid CB
          have HKR := Lib.hid hkr
          have E6 := Lib.hid e6
          clear hx hPl ho0 ha0 a0 hkr e6
          go_upto_region 10 with (go_at_call 14; refine CB.out.mono ?_; rintro e w3 ⟨rfl, hb3⟩; have P3 := Lib.hid (PW.out.later hb3); obtain ⟨a3, ho3, ha3⟩ := P3.out.nd; have cB0 := (ho3.cell (k * 2)).trans (ha3.2 k hlt).1; have cB1 := (ho3.cell (k * 2 + 1)).trans (ha3.2 k hlt).2; have fB := ho3.free; have zB := ho3.lt; clear ha3 ho3)
          have ST := fun (gg cc : Nat) (w5 : World) h1 h2 => P3.out.step (g := gg) (cap' := cc) (w5 := w5) hlt HKR.out HX.out h1 h2
          have RW := P3.out.row2 (.int .i64 (x.1 : Nat)) (.int .i64 (x.2 : Nat)) (.int .i64 (k : Nat))
          have z5 : ((w3.setCell ⟨B, k * 2, none⟩ (.int .i64 (x.1 : Nat))).setCell ⟨B, k * 2 + 1, none⟩ (.int .i64 (x.2 : Nat))).heap.size = w3.heap.size := by simp [World.setCell]
          have zB3 : B + 1 ≤ w3.heap.size := zB
          revert ST RW z5
          generalize (w3.setCell ⟨B, k * 2, none⟩ (.int .i64 (x.1 : Nat))).setCell ⟨B, k * 2 + 1, none⟩ (.int .i64 (x.2 : Nat)) = W5
          intro ST RW z5
          have HST := Lib.hid ST
          have HRW := Lib.hid RW
          have zB5 : B + 1 ≤ W5.heap.size := by rw [z5]; exact zB3
          clear zB3 z5 ST RW cB0 cB1 fB lF zF OF PW LW LQ zB
          obtain ⟨i0, hi, hz0, hz1, hz2⟩ := info_parts info_int
          have hlp : (trPl r k).length ≤ 9 := by have := trPl_len r k; omega
          have e6 := E6.out
          rw [e6] at HST HRW
          rw [e6]
          clear e6 E6
          generalize Value.agg (ndV x) = vx at *
          generalize (trPl r k).length = np at *
          generalize plC (trPl r k) = xs0 at *
          have HNW := Lib.hid (show ∀ (j : Nat) (u : Value), ([Value.int .i64 (k : Nat)] : List Value)[j]? = some u → (W5.alloc (.cells #[.int .i64 (k : Nat)] 3)).cell? ((⟨W5.heap.size, 0, none⟩ : Addr).add j) = some u from World.news_of_block (cs := #[.int .i64 (k : Nat)]) (t := 3) (fr := (0, 0)) (heap_alloc_new W5 _))
          go_wp2_with (at_builtin; refine wpList_append_two _ (by rfl) _ _ _ (by rfl) (B + 1) 3 i0 _ 1 8 Try.underlying46 hi hz0 hz1 hz2 rfl (by omega) (.slice oap np capp) np xs0 (by rfl) HRW.out ⟨W5.heap.size, 0, none⟩ 1 1 [.int .i64 (k : Nat)] (by rfl) (by rfl) HNW.out (by intro u hu; simp at hu; subst hu; rfl) (by omega) (by unfold maxLen; omega) (by omega) (by simp; omega) (W5.heap.size + 1) (by simp) ?_; intro g' cap' w6 hown6 hgrow6 hat6 hlt6)
          have HG := Lib.hid (HST.out g' cap' w6 hown6 hgrow6)
          clear hown6 hgrow6 hat6 hlt6
          go_wp2_with fail
          go_roundw
          case rel => exact ⟨k + 1, by omega, by go_num, HG⟩
          case measure => simp [intOf]; omega
      · have e : k = n := by omega
        subst e
        obtain ⟨a0, ho0, ha0⟩ := HP.out.nd
        have HG := Lib.hid (show NdW wr k (trSf l r) B by rw [HSF.out]; exact ha0.lies ho0)
        have HB := Lib.hid HP.out.bel
        clear HP ha0 ho0
        go_wp2_with fail
        go_ret
        exact .inr ⟨r, B, HRT.out, by rw [HLN.out]; rfl, by rw [HLN.out]; exact HG.out, HB.out⟩
end Go.Proofs.Ytechmejmlelmmaa
