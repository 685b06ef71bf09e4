/- How many parts are left behind a filter's: the walk; whether a filter is small. -/
import Derived.Test.YtechmejmlelmmaaLies
namespace Go.Proofs.Ytechmejmlelmmaa
set_option linter.unusedVariables false
set_option linter.unusedSimpArgs false
set_option maxRecDepth 100000
open Go.RowKit

def leftN (s m : Int) : Int := if s ≤ m then m - s else -1
theorem leftN_neg {s r : Int} (h : 0 ≤ r) (h1 : leftN s r < 0) : r < s := by
  unfold leftN at h1; split at h1 <;> omega
theorem leftN_pos {s r : Int} (h1 : 0 ≤ leftN s r) : s ≤ r := by
  unfold leftN at h1; split at h1 <;> omega
/-- The loop's word: k of Kids are gone through, r parts are left. -/
def LeftRel (l : List Pr) (len : Nat) (m : Int) (w0 : World) (most i : Value) (wr : World) : Prop :=
  ∃ (k : Nat) (r : Int), k ≤ len ∧ i = .int .i64 k ∧ most = .int .i64 r ∧ 0 ≤ r ∧ r ≤ 60 ∧ Hid (r = m - (1 + Pr.sizes (l.take k) : Nat)) ∧ Below w0.heap.size w0 wr

set_option maxHeartbeats 1000000 in
theorem left_calls (p : Pr) : ∀ (v : Value) (m : Int) (w : World), LT w p v → -1 ≤ m → m ≤ 60 →
    Calls Try.prog 19 #[.agg #[.int .i64 p.op, .string p.text, .int .i64 p.n, .float .f64 p.x, .float .f64 p.y, v], .int .i64 m] w fun e w' => e = .returned (.int .i64 (leftN p.size m)) ∧ Below w.heap.size w w' := by
  induction p using Pr.ind with
  | h op t n x y kids ih =>
    intro v m w hL h1 h2
    obtain ⟨oa, cap, b, o, V, rfl, ht, hl, hc, hn, hcell, hrec⟩ := lies_slice hL
    simp only [Pr.kids_node, Pr.text_node, Pr.op_node, Pr.n_node, Pr.x_node, Pr.y_node, Pr.size] at *
    by_cases h0 : m ≤ 0
    · have e : leftN (1 + Pr.sizes kids : Nat) m = -1 := by unfold leftN; rw [if_neg (by omega)]
      rw [e]
      clear e
      go_enter Try.func19, Try.ntmps19
      go_wp2_with fail
      go_ret
      exact ⟨rfl, (Below.refl _ _).alloc (Nat.le_refl _) _⟩
    · unfold maxLen at hc
      have E := Lib.hid (rfl : leftN (1 + Pr.sizes kids : Nat) m = leftN (1 + Pr.sizes kids : Nat) m)
      have HL := Lib.hid hL
      have HC := Lib.hid hcell
      have HR := Lib.hid hrec
      have HN := Lib.hid hn
      have HI := Lib.hid ih
      clear hL hcell hrec hn ih
      generalize hlen : kids.length = len at *
      have HLEN := Lib.hid hlen
      clear hlen
      go_enter Try.func19, Try.ntmps19
      go_wp2_with fail
      go_loopw [1, 5] (fun most i wr => LeftRel kids len m (w.alloc (.cells #[.int .i64 op, .string t, .int .i64 n, .float .f64 x, .float .f64 y, .slice oa len cap] 42)) most i wr) (fun _ i _ => len - (intOf i).toNat)
      case atStart => exact ⟨0, m - 1, Nat.zero_le _, rfl, rfl, by omega, by omega, by simp [Hid, Pr.sizes], Below.refl _ _⟩
      case round =>
        obtain ⟨k, r, hk, rfl, rfl, hr0, hr1, HRr, hb⟩ := hrel
        have g := (Has.new w #[.int .i64 op, .string t, .int .i64 n, .float .f64 x, .float .f64 y, .slice oa len cap] 42).below hb (by simp)
        by_cases hlt : k < len
        · obtain ⟨q, hq⟩ : ∃ q, kids[k]? = some q := ⟨_, List.getElem?_eq_getElem (by rw [HLEN.out]; exact hlt)⟩
          obtain ⟨rfl, hS⟩ := HN.out (by omega)
          have hbw : Below w.heap.size w wr := ((Below.refl _ _).alloc (Nat.le_refl _) _).trans (hb.mono (by simp))
          obtain ⟨c0, c1, c2, c3, c4, c5⟩ := tc_cells (w := wr) (fun j u hu => (hbw.cell (p := ⟨b, o + k * 6 + j, none⟩) hS).trans (HC.out k q hq j u hu))
          have CC := HI.out q (List.mem_of_getElem? hq) (V k) r wr ((HR.out k q hq).later hbw (Nat.le_refl _)) (by omega) (by omega)
          have HB := Lib.hid hb
          have HQ := Lib.hid hq
          clear hb hbw hq
          have l := g.cell
          have z := g.lt
          clear g
          go_wp2_with (go_at_call 19; refine CC.mono ?_; rintro e w' ⟨rfl, hb'⟩)
          · have hneg : leftN q.size r < 0 := by assumption
            have hbig : r < (q.size : Int) := leftN_neg hr0 hneg
            have h3 := Pr.sizes_take HQ.out
            have h4 := Pr.sizes_take_le kids (k + 1)
            have h5 := HRr.out
            go_ret
            exact ⟨ret_int (by unfold leftN; rw [if_neg (by omega)]), below_new (HB.out.trans (hb'.mono HB.out.size))⟩
          · have hneg : 0 ≤ leftN q.size r := by assumption
            have hbig : (q.size : Int) ≤ r := leftN_pos hneg
            have h3 := Pr.sizes_take HQ.out
            have h5 := HRr.out
            have h6 := Pr.size_pos q
            have h7 : leftN q.size r = r - q.size := if_pos hbig
            go_roundw
            case rel => exact ⟨k + 1, r - q.size, by omega, by go_num, by rw [h7], by omega, by omega, by unfold Hid; rw [h3]; omega, HB.out.trans (hb'.mono HB.out.size)⟩
            case measure => simp [intOf]; omega
        · have HB := Lib.hid hb
          clear hb
          have l := g.cell
          have z := g.lt
          clear g
          have e : k = len := by omega
          have h5 := HRr.out
          rw [Pr.take_all kids (by rw [HLEN.out]; omega)] at h5
          have H5 := Lib.hid h5
          clear h5 e
          go_wp2_with fail
          go_ret
          have h5 := H5.out
          exact ⟨ret_int (by unfold leftN; rw [if_pos (by omega)]; exact h5), below_new HB.out⟩

set_option maxHeartbeats 1000000 in
theorem small_calls (p : Pr) (v : Value) (w : World) (hL : LT w p v) :
    Calls Try.prog 11 #[.agg #[.int .i64 p.op, .string p.text, .int .i64 p.n, .float .f64 p.x, .float .f64 p.y, v]] w fun e w' => e = .returned (.int .i64 (if p.size ≤ 60 then 1 else 0)) ∧ Below w.heap.size w w' := by
  have H := fun w' h => Lib.hid (left_calls p v 60 w' h (by omega) (by omega))
  have L1 := fun o => Lib.hid (hL.atAlloc o)
  clear hL
  by_cases h : p.size ≤ 60
  · have h1 : leftN p.size 60 = 60 - p.size := if_pos (by omega)
    have h2 : ¬ (leftN p.size 60 < 0) := by omega
    rw [if_pos h]
    clear h1
    go_enter Try.func11, Try.ntmps11
    go_wp2_with (go_at_call 19; refine (H _ (L1 _).out).out.mono ?_; rintro e w' ⟨rfl, hb⟩)
    go_ret
    exact ⟨rfl, below_new hb⟩
  · have h1 : leftN p.size 60 = -1 := if_neg (by omega)
    have h2 : leftN p.size 60 < 0 := by omega
    rw [if_neg h]
    clear h1
    go_enter Try.func11, Try.ntmps11
    go_wp2_with (go_at_call 19; refine (H _ (L1 _).out).out.mono ?_; rintro e w' ⟨rfl, hb⟩)
    go_ret
    exact ⟨rfl, below_new hb⟩

end Go.Proofs.Ytechmejmlelmmaa
