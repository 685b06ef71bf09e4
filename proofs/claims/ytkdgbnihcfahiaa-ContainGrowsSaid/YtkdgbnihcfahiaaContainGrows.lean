/- 'ContainGrows' returns true, whatever it is given: the walk. -/
import Derived.Test.YtkdgbnihcfahiaaContUp
import Derived.Test.YtkdgbnihcfahiaaLeft
import Derived.Test.YtkdgbnihcfahiaaConv
import Derived.Deep.DeepCutAuto
namespace Go.Proofs.Ytkdgbnihcfahiaa
open Go.RowKit

theorem mayA_calls (p r : Pr) (v : Value) (w : World) (h : LP w (Pr.nodeA p r) v) :
    Calls Try.prog 13 #[.agg #[.int .i64 8, .string ⟨#[]⟩, .int .i64 0, .complex .f64 0 0, v]] w fun e w' => e = .returned (.bool (Pr.nodeA p r).mayB) ∧ Below w.heap.size w w' := predMay_calls (Pr.nodeA p r) v w h
theorem mayO5_calls (r q : Pr) (v : Value) (w : World) (h : LP w (nodeO r q) v) :
    Calls Try.prog 13 #[.agg #[.int .i64 9, .string ⟨#[]⟩, .int .i64 0, .complex .f64 0 0, v]] w fun e w' => e = .returned (.bool (nodeO r q).mayB) ∧ Below w.heap.size w w' := predMay_calls (nodeO r q) v w h
theorem inA_calls (p r q : Pr) (v v' : Value) (w : World) (h : LP w (Pr.nodeA p r) v) (h' : LP w q v') (h1 : p.size ≤ 60) (h2 : r.size ≤ 60) (h3 : q.size ≤ 60) {c : Bool} (hc : Pr.inB (Pr.nodeA p r) q = c) :
    Calls Try.prog 9 #[.agg #[.int .i64 8, .string ⟨#[]⟩, .int .i64 0, .complex .f64 0 0, v], .agg #[.int .i64 q.op, .string q.text, .int .i64 q.n, .complex .f64 q.x q.y, v']] w fun e w' => e = .returned (.bool c) ∧ Below w.heap.size w w' := by
  have := contIn_calls (Pr.nodeA p r) q v v' w h h' (by simp only [Pr.nodeA, Pr.size, Pr.sizes]; omega) (by omega)
  rw [hc] at this
  exact this
theorem inO_calls (p r q : Pr) (v v' : Value) (w : World) (h : LP w p v) (h' : LP w (nodeO r q) v') (h1 : p.size ≤ 60) (h2 : r.size ≤ 60) (h3 : q.size ≤ 60) {c : Bool} (hc : Pr.inB p (nodeO r q) = c) :
    Calls Try.prog 9 #[.agg #[.int .i64 p.op, .string p.text, .int .i64 p.n, .complex .f64 p.x p.y, v], .agg #[.int .i64 9, .string ⟨#[]⟩, .int .i64 0, .complex .f64 0 0, v']] w fun e w' => e = .returned (.bool c) ∧ Below w.heap.size w w' := by
  have := contIn_calls p (nodeO r q) v v' w h h' (by omega) (by simp only [nodeO, Pr.size, Pr.sizes]; omega)
  rw [hc] at this
  exact this
theorem inS_calls (p : Pr) (v v' : Value) (w : World) (h : LP w p v) (h1 : p.size ≤ 60) (hm : p.mayB = true) (h' : LP w Pr.starP v') :
    Calls Try.prog 9 #[.agg #[.int .i64 p.op, .string p.text, .int .i64 p.n, .complex .f64 p.x p.y, v], .agg #[.int .i64 1, .string ⟨#[]⟩, .int .i64 0, .complex .f64 0 0, v']] w fun e w' => e = .returned (.bool true) ∧ Below w.heap.size w w' := by
  have := contIn_calls p Pr.starP v v' w h h' (by omega) (by decide)
  rw [Pr.in_star hm] at this
  exact this
theorem inN_calls (p : Pr) (v v' : Value) (w : World) (h : LP w p v) (h1 : p.size ≤ 60) (hm : p.mayB = true) (h' : LP w Pr.noneP v') :
    Calls Try.prog 9 #[.agg #[.int .i64 2, .string ⟨#[]⟩, .int .i64 0, .complex .f64 0 0, v'], .agg #[.int .i64 p.op, .string p.text, .int .i64 p.n, .complex .f64 p.x p.y, v]] w fun e w' => e = .returned (.bool true) ∧ Below w.heap.size w w' := by
  have := contIn_calls Pr.noneP p v' v w h' h (by decide) (by omega)
  rw [Pr.in_none hm] at this
  exact this
theorem inC_calls (p q : Pr) (v v' : Value) (w : World) (h : LP w p v) (h' : LP w q v') (h1 : p.size ≤ 60) (h2 : q.size ≤ 60) {c : Bool} (hc : Pr.inB p q = c) :
    Calls Try.prog 9 #[.agg #[.int .i64 p.op, .string p.text, .int .i64 p.n, .complex .f64 p.x p.y, v], .agg #[.int .i64 q.op, .string q.text, .int .i64 q.n, .complex .f64 q.x q.y, v']] w fun e w' => e = .returned (.bool c) ∧ Below w.heap.size w w' := by
  have := contIn_calls p q v v' w h h' (by omega) (by omega)
  rw [hc] at this
  exact this

set_option maxRecDepth 100000 in
set_option maxHeartbeats 8000000 in
theorem containGrows_calls (p : Pr) (q : Pr) (r : Pr) (kp : Value) (kq : Value) (kr : Value) (w : World) (hp : LT w p kp) (hq : LT w q kq) (hr : LT w r kr) :
    Calls Try.prog 5 #[.agg #[.int .i64 p.op, .string p.text, .int .i64 p.n, .float .f64 p.x, .float .f64 p.y, kp], .agg #[.int .i64 q.op, .string q.text, .int .i64 q.n, .float .f64 q.x, .float .f64 q.y, kq], .agg #[.int .i64 r.op, .string r.text, .int .i64 r.n, .float .f64 r.x, .float .f64 r.y, kr]] w fun e w' => e = .returned (.bool true) ∧ Below w.heap.size w w' := by
  obtain ⟨op, cp, rfl⟩ := lies_val hp
  obtain ⟨oq, cq, rfl⟩ := lies_val hq
  obtain ⟨or, cr, rfl⟩ := lies_val hr
  have U := fun w => Lib.hid (up5_calls w)
  have OXp := Lib.hid (((Own.newAt w #[.int .i64 p.op, .string p.text, .int .i64 p.n, .float .f64 p.x, .float .f64 p.y, (.slice op p.kids.length cp)] 25 (b := w.heap.size) (by simp)).alloc (.cells #[.int .i64 q.op, .string q.text, .int .i64 q.n, .float .f64 q.x, .float .f64 q.y, (.slice oq q.kids.length cq)] 25)).alloc (.cells #[.int .i64 r.op, .string r.text, .int .i64 r.n, .float .f64 r.x, .float .f64 r.y, (.slice or r.kids.length cr)] 25))
  have OXq := Lib.hid ((Own.newAt (w.alloc (.cells #[.int .i64 p.op, .string p.text, .int .i64 p.n, .float .f64 p.x, .float .f64 p.y, (.slice op p.kids.length cp)] 25)) #[.int .i64 q.op, .string q.text, .int .i64 q.n, .float .f64 q.x, .float .f64 q.y, (.slice oq q.kids.length cq)] 25 (b := w.heap.size + 1) (by simp)).alloc (.cells #[.int .i64 r.op, .string r.text, .int .i64 r.n, .float .f64 r.x, .float .f64 r.y, (.slice or r.kids.length cr)] 25))
  have OXr := Lib.hid (Own.newAt ((w.alloc (.cells #[.int .i64 p.op, .string p.text, .int .i64 p.n, .float .f64 p.x, .float .f64 p.y, (.slice op p.kids.length cp)] 25)).alloc (.cells #[.int .i64 q.op, .string q.text, .int .i64 q.n, .float .f64 q.x, .float .f64 q.y, (.slice oq q.kids.length cq)] 25)) #[.int .i64 r.op, .string r.text, .int .i64 r.n, .float .f64 r.x, .float .f64 r.y, (.slice or r.kids.length cr)] 25 (b := w.heap.size + 1 + 1) (by simp))
  have BEL := Lib.hid ((((Below.refl w.heap.size w).alloc (by omega) (.cells #[.int .i64 p.op, .string p.text, .int .i64 p.n, .float .f64 p.x, .float .f64 p.y, (.slice op p.kids.length cp)] 25)).alloc (by simp; try omega) (.cells #[.int .i64 q.op, .string q.text, .int .i64 q.n, .float .f64 q.x, .float .f64 q.y, (.slice oq q.kids.length cq)] 25)).alloc (by simp; try omega) (.cells #[.int .i64 r.op, .string r.text, .int .i64 r.n, .float .f64 r.x, .float .f64 r.y, (.slice or r.kids.length cr)] 25))
  have LXp := Lib.hid (hp.later BEL.out (Nat.le_refl _))
  have LXq := Lib.hid (hq.later BEL.out (Nat.le_refl _))
  have LXr := Lib.hid (hr.later BEL.out (Nat.le_refl _))
  clear hp hq hr
  go_enter Try.func5, Try.ntmps5
  go_wp2_with fail
  refine (U _).out.mono ?_; rintro e w1 ⟨rfl, hb⟩
  replace OXp := Lib.hid (OXp.out.later hb)
  replace OXq := Lib.hid (OXq.out.later hb)
  replace OXr := Lib.hid (OXr.out.later hb)
  replace LXp := Lib.hid (LXp.out.later hb (Nat.le_refl _))
  replace LXq := Lib.hid (LXq.out.later hb (Nat.le_refl _))
  replace LXr := Lib.hid (LXr.out.later hb (Nat.le_refl _))
  replace BEL := Lib.hid (BEL.out.trans (hb.mono BEL.out.size))
  clear hb
  clear U
  have LOXp := fun dd os o => OXp.out.has.regrown dd os o
  have LOXq := fun dd os o => OXq.out.has.regrown dd os o
  have LOXr := fun dd os o => OXr.out.has.regrown dd os o
  have msp := fun dd os => Lib.hid (Calls.regrown_of (small_calls p (.slice op p.kids.length cp) (Sort.grow (redrawn w1 dd) os) (LXp.out.later (below_regrown _ _ _) (Nat.le_refl _))))
  have msq := fun dd os => Lib.hid (Calls.regrown_of (small_calls q (.slice oq q.kids.length cq) (Sort.grow (redrawn w1 dd) os) (LXq.out.later (below_regrown _ _ _) (Nat.le_refl _))))
  have msr := fun dd os => Lib.hid (Calls.regrown_of (small_calls r (.slice or r.kids.length cr) (Sort.grow (redrawn w1 dd) os) (LXr.out.later (below_regrown _ _ _) (Nat.le_refl _))))
  by_cases hsp : p.size ≤ 60
  case neg =>
    simp only [if_neg hsp] at msp
    by_cases hsq : q.size ≤ 60
    case neg =>
      simp only [if_neg hsq] at msq
      by_cases hsr : r.size ≤ 60
      case neg =>
        simp only [if_neg hsr] at msr
        go_wp2_with fail
        refine wp_region_quiet_below (by kernel_rfl) (by kernel_rfl) ?_
        repeat (first | go_big_quiet_step ((first | (with_reducible exact (msp _ _).out) | (with_reducible exact (msq _ _).out) | (with_reducible exact (msr _ _).out))) | quiet_step (first | (with_reducible exact (msp _ _).out) | (with_reducible exact (msq _ _).out) | (with_reducible exact (msr _ _).out)))
        refine wpQuiet_nil ?_
        intro w2 hw'
        have hb := regrown_below hw'
        clear hw' msp msq msr
        clear LOXp LOXq LOXr
        replace OXp := Lib.hid (OXp.out.later hb)
        replace OXq := Lib.hid (OXq.out.later hb)
        replace OXr := Lib.hid (OXr.out.later hb)
        replace LXp := Lib.hid (LXp.out.later hb (Nat.le_refl _))
        replace LXq := Lib.hid (LXq.out.later hb (Nat.le_refl _))
        replace LXr := Lib.hid (LXr.out.later hb (Nat.le_refl _))
        replace BEL := Lib.hid (BEL.out.trans (hb.mono BEL.out.size))
        clear hb
        go_wp2_with fail
        go_ret
        exact ⟨rfl, BEL.out⟩
      simp only [if_pos hsr] at msr
      go_wp2_with fail
      refine wp_region_quiet_below (by kernel_rfl) (by kernel_rfl) ?_
      repeat (first | go_big_quiet_step ((first | (with_reducible exact (msp _ _).out) | (with_reducible exact (msq _ _).out) | (with_reducible exact (msr _ _).out))) | quiet_step (first | (with_reducible exact (msp _ _).out) | (with_reducible exact (msq _ _).out) | (with_reducible exact (msr _ _).out)))
      refine wpQuiet_nil ?_
      intro w2 hw'
      have hb := regrown_below hw'
      clear hw' msp msq msr
      clear LOXp LOXq LOXr
      replace OXp := Lib.hid (OXp.out.later hb)
      replace OXq := Lib.hid (OXq.out.later hb)
      replace OXr := Lib.hid (OXr.out.later hb)
      replace LXp := Lib.hid (LXp.out.later hb (Nat.le_refl _))
      replace LXq := Lib.hid (LXq.out.later hb (Nat.le_refl _))
      replace LXr := Lib.hid (LXr.out.later hb (Nat.le_refl _))
      replace BEL := Lib.hid (BEL.out.trans (hb.mono BEL.out.size))
      clear hb
      go_wp2_with fail
      go_ret
      exact ⟨rfl, BEL.out⟩
    simp only [if_pos hsq] at msq
    by_cases hsr : r.size ≤ 60
    case neg =>
      simp only [if_neg hsr] at msr
      go_wp2_with fail
      refine wp_region_quiet_below (by kernel_rfl) (by kernel_rfl) ?_
      repeat (first | go_big_quiet_step ((first | (with_reducible exact (msp _ _).out) | (with_reducible exact (msq _ _).out) | (with_reducible exact (msr _ _).out))) | quiet_step (first | (with_reducible exact (msp _ _).out) | (with_reducible exact (msq _ _).out) | (with_reducible exact (msr _ _).out)))
      refine wpQuiet_nil ?_
      intro w2 hw'
      have hb := regrown_below hw'
      clear hw' msp msq msr
      clear LOXp LOXq LOXr
      replace OXp := Lib.hid (OXp.out.later hb)
      replace OXq := Lib.hid (OXq.out.later hb)
      replace OXr := Lib.hid (OXr.out.later hb)
      replace LXp := Lib.hid (LXp.out.later hb (Nat.le_refl _))
      replace LXq := Lib.hid (LXq.out.later hb (Nat.le_refl _))
      replace LXr := Lib.hid (LXr.out.later hb (Nat.le_refl _))
      replace BEL := Lib.hid (BEL.out.trans (hb.mono BEL.out.size))
      clear hb
      go_wp2_with fail
      go_ret
      exact ⟨rfl, BEL.out⟩
    simp only [if_pos hsr] at msr
    go_wp2_with fail
    refine wp_region_quiet_below (by kernel_rfl) (by kernel_rfl) ?_
    repeat (first | go_big_quiet_step ((first | (with_reducible exact (msp _ _).out) | (with_reducible exact (msq _ _).out) | (with_reducible exact (msr _ _).out))) | quiet_step (first | (with_reducible exact (msp _ _).out) | (with_reducible exact (msq _ _).out) | (with_reducible exact (msr _ _).out)))
    refine wpQuiet_nil ?_
    intro w2 hw'
    have hb := regrown_below hw'
    clear hw' msp msq msr
    clear LOXp LOXq LOXr
    replace OXp := Lib.hid (OXp.out.later hb)
    replace OXq := Lib.hid (OXq.out.later hb)
    replace OXr := Lib.hid (OXr.out.later hb)
    replace LXp := Lib.hid (LXp.out.later hb (Nat.le_refl _))
    replace LXq := Lib.hid (LXq.out.later hb (Nat.le_refl _))
    replace LXr := Lib.hid (LXr.out.later hb (Nat.le_refl _))
    replace BEL := Lib.hid (BEL.out.trans (hb.mono BEL.out.size))
    clear hb
    go_wp2_with fail
    go_ret
    exact ⟨rfl, BEL.out⟩
  simp only [if_pos hsp] at msp
  by_cases hsq : q.size ≤ 60
  case neg =>
    simp only [if_neg hsq] at msq
    by_cases hsr : r.size ≤ 60
    case neg =>
      simp only [if_neg hsr] at msr
      go_wp2_with fail
      refine wp_region_quiet_below (by kernel_rfl) (by kernel_rfl) ?_
      repeat (first | go_big_quiet_step ((first | (with_reducible exact (msp _ _).out) | (with_reducible exact (msq _ _).out) | (with_reducible exact (msr _ _).out))) | quiet_step (first | (with_reducible exact (msp _ _).out) | (with_reducible exact (msq _ _).out) | (with_reducible exact (msr _ _).out)))
      refine wpQuiet_nil ?_
      intro w2 hw'
      have hb := regrown_below hw'
      clear hw' msp msq msr
      clear LOXp LOXq LOXr
      replace OXp := Lib.hid (OXp.out.later hb)
      replace OXq := Lib.hid (OXq.out.later hb)
      replace OXr := Lib.hid (OXr.out.later hb)
      replace LXp := Lib.hid (LXp.out.later hb (Nat.le_refl _))
      replace LXq := Lib.hid (LXq.out.later hb (Nat.le_refl _))
      replace LXr := Lib.hid (LXr.out.later hb (Nat.le_refl _))
      replace BEL := Lib.hid (BEL.out.trans (hb.mono BEL.out.size))
      clear hb
      go_wp2_with fail
      go_ret
      exact ⟨rfl, BEL.out⟩
    simp only [if_pos hsr] at msr
    go_wp2_with fail
    refine wp_region_quiet_below (by kernel_rfl) (by kernel_rfl) ?_
    repeat (first | go_big_quiet_step ((first | (with_reducible exact (msp _ _).out) | (with_reducible exact (msq _ _).out) | (with_reducible exact (msr _ _).out))) | quiet_step (first | (with_reducible exact (msp _ _).out) | (with_reducible exact (msq _ _).out) | (with_reducible exact (msr _ _).out)))
    refine wpQuiet_nil ?_
    intro w2 hw'
    have hb := regrown_below hw'
    clear hw' msp msq msr
    clear LOXp LOXq LOXr
    replace OXp := Lib.hid (OXp.out.later hb)
    replace OXq := Lib.hid (OXq.out.later hb)
    replace OXr := Lib.hid (OXr.out.later hb)
    replace LXp := Lib.hid (LXp.out.later hb (Nat.le_refl _))
    replace LXq := Lib.hid (LXq.out.later hb (Nat.le_refl _))
    replace LXr := Lib.hid (LXr.out.later hb (Nat.le_refl _))
    replace BEL := Lib.hid (BEL.out.trans (hb.mono BEL.out.size))
    clear hb
    go_wp2_with fail
    go_ret
    exact ⟨rfl, BEL.out⟩
  simp only [if_pos hsq] at msq
  by_cases hsr : r.size ≤ 60
  case neg =>
    simp only [if_neg hsr] at msr
    go_wp2_with fail
    refine wp_region_quiet_below (by kernel_rfl) (by kernel_rfl) ?_
    repeat (first | go_big_quiet_step ((first | (with_reducible exact (msp _ _).out) | (with_reducible exact (msq _ _).out) | (with_reducible exact (msr _ _).out))) | quiet_step (first | (with_reducible exact (msp _ _).out) | (with_reducible exact (msq _ _).out) | (with_reducible exact (msr _ _).out)))
    refine wpQuiet_nil ?_
    intro w2 hw'
    have hb := regrown_below hw'
    clear hw' msp msq msr
    clear LOXp LOXq LOXr
    replace OXp := Lib.hid (OXp.out.later hb)
    replace OXq := Lib.hid (OXq.out.later hb)
    replace OXr := Lib.hid (OXr.out.later hb)
    replace LXp := Lib.hid (LXp.out.later hb (Nat.le_refl _))
    replace LXq := Lib.hid (LXq.out.later hb (Nat.le_refl _))
    replace LXr := Lib.hid (LXr.out.later hb (Nat.le_refl _))
    replace BEL := Lib.hid (BEL.out.trans (hb.mono BEL.out.size))
    clear hb
    go_wp2_with fail
    go_ret
    exact ⟨rfl, BEL.out⟩
  simp only [if_pos hsr] at msr
  go_wp2_with fail
  refine wp_region_quiet_below (by kernel_rfl) (by kernel_rfl) ?_
  repeat (first | go_big_quiet_step ((first | (with_reducible exact (msp _ _).out) | (with_reducible exact (msq _ _).out) | (with_reducible exact (msr _ _).out))) | quiet_step (first | (with_reducible exact (msp _ _).out) | (with_reducible exact (msq _ _).out) | (with_reducible exact (msr _ _).out)))
  refine wpQuiet_nil ?_
  intro w2 hw'
  have hb := regrown_below hw'
  clear hw' msp msq msr
  clear LOXp LOXq LOXr
  replace OXp := Lib.hid (OXp.out.later hb)
  replace OXq := Lib.hid (OXq.out.later hb)
  replace OXr := Lib.hid (OXr.out.later hb)
  replace LXp := Lib.hid (LXp.out.later hb (Nat.le_refl _))
  replace LXq := Lib.hid (LXq.out.later hb (Nat.le_refl _))
  replace LXr := Lib.hid (LXr.out.later hb (Nat.le_refl _))
  replace BEL := Lib.hid (BEL.out.trans (hb.mono BEL.out.size))
  clear hb
  have lOXp := OXp.out.cell
  have zOXp := OXp.out.lt
  have lOXq := OXq.out.cell
  have zOXq := OXq.out.lt
  have lOXr := OXr.out.cell
  have zOXr := OXr.out.lt
  go_wp2_with fail
  refine (conv_calls p (.slice op p.kids.length cp) _ LXp.out hsp).mono ?_
  rintro e w3 ⟨vp, rfl, hlp, hb⟩
  obtain ⟨ap, bp, rfl⟩ := lies_val hlp
  have MP := Lib.hid (hlp.mono (S' := fun b => b < w3.heap.size) (fun _ _ _ => rfl) (fun _ h => h.2))
  clear hlp
  clear lOXp zOXp lOXq zOXq lOXr zOXr
  replace OXq := Lib.hid (OXq.out.later hb)
  replace OXr := Lib.hid (OXr.out.later hb)
  replace LXq := Lib.hid (LXq.out.later hb (Nat.le_refl _))
  replace LXr := Lib.hid (LXr.out.later hb (Nat.le_refl _))
  replace BEL := Lib.hid (BEL.out.trans (hb.mono BEL.out.size))
  clear hb
  clear OXp LXp
  have lOXq := OXq.out.cell
  have zOXq := OXq.out.lt
  have lOXr := OXr.out.cell
  have zOXr := OXr.out.lt
  go_wp2_with fail
  clear lOXq zOXq lOXr zOXr
  replace OXq := Lib.hid (OXq.out.alloc (.cells #[.int .i64 p.op, .string p.text, .int .i64 p.n, .complex .f64 p.x p.y, .slice ap p.kids.length bp] 31))
  replace OXr := Lib.hid (OXr.out.alloc (.cells #[.int .i64 p.op, .string p.text, .int .i64 p.n, .complex .f64 p.x p.y, .slice ap p.kids.length bp] 31))
  replace LXq := Lib.hid (LXq.out.atAlloc (.cells #[.int .i64 p.op, .string p.text, .int .i64 p.n, .complex .f64 p.x p.y, .slice ap p.kids.length bp] 31))
  replace LXr := Lib.hid (LXr.out.atAlloc (.cells #[.int .i64 p.op, .string p.text, .int .i64 p.n, .complex .f64 p.x p.y, .slice ap p.kids.length bp] 31))
  replace MP := Lib.hid (MP.out.atAlloc (.cells #[.int .i64 p.op, .string p.text, .int .i64 p.n, .complex .f64 p.x p.y, .slice ap p.kids.length bp] 31))
  have OP := Lib.hid (Own.new w3 #[.int .i64 p.op, .string p.text, .int .i64 p.n, .complex .f64 p.x p.y, .slice ap p.kids.length bp] 31)
  replace BEL := Lib.hid (BEL.out.alloc BEL.out.size (.cells #[.int .i64 p.op, .string p.text, .int .i64 p.n, .complex .f64 p.x p.y, .slice ap p.kids.length bp] 31))
  generalize w3.heap.size = BP at *
  generalize w3.alloc (.cells #[.int .i64 p.op, .string p.text, .int .i64 p.n, .complex .f64 p.x p.y, .slice ap p.kids.length bp] 31) = w3' at *
  have lOXq := OXq.out.cell
  have zOXq := OXq.out.lt
  have lOXr := OXr.out.cell
  have zOXr := OXr.out.lt
  refine (conv_calls q (.slice oq q.kids.length cq) _ LXq.out hsq).mono ?_
  rintro e w4 ⟨vq, rfl, hlq, hb⟩
  obtain ⟨aq, bq, rfl⟩ := lies_val hlq
  have MQ := Lib.hid (hlq.mono (S' := fun b => b < w4.heap.size) (fun _ _ _ => rfl) (fun _ h => h.2))
  clear hlq
  clear lOXq zOXq lOXr zOXr
  replace OXr := Lib.hid (OXr.out.later hb)
  replace OP := Lib.hid (OP.out.later hb)
  replace LXr := Lib.hid (LXr.out.later hb (Nat.le_refl _))
  replace MP := Lib.hid (MP.out.later hb (Nat.le_refl _))
  replace BEL := Lib.hid (BEL.out.trans (hb.mono BEL.out.size))
  clear hb
  clear OXq LXq
  have lOXr := OXr.out.cell
  have zOXr := OXr.out.lt
  have lOP := OP.out.cell
  have zOP := OP.out.lt
  go_wp2_with fail
  clear lOXr zOXr lOP zOP
  replace OXr := Lib.hid (OXr.out.alloc (.cells #[.int .i64 q.op, .string q.text, .int .i64 q.n, .complex .f64 q.x q.y, .slice aq q.kids.length bq] 31))
  replace OP := Lib.hid (OP.out.alloc (.cells #[.int .i64 q.op, .string q.text, .int .i64 q.n, .complex .f64 q.x q.y, .slice aq q.kids.length bq] 31))
  replace LXr := Lib.hid (LXr.out.atAlloc (.cells #[.int .i64 q.op, .string q.text, .int .i64 q.n, .complex .f64 q.x q.y, .slice aq q.kids.length bq] 31))
  replace MP := Lib.hid (MP.out.atAlloc (.cells #[.int .i64 q.op, .string q.text, .int .i64 q.n, .complex .f64 q.x q.y, .slice aq q.kids.length bq] 31))
  replace MQ := Lib.hid (MQ.out.atAlloc (.cells #[.int .i64 q.op, .string q.text, .int .i64 q.n, .complex .f64 q.x q.y, .slice aq q.kids.length bq] 31))
  have OQ := Lib.hid (Own.new w4 #[.int .i64 q.op, .string q.text, .int .i64 q.n, .complex .f64 q.x q.y, .slice aq q.kids.length bq] 31)
  replace BEL := Lib.hid (BEL.out.alloc BEL.out.size (.cells #[.int .i64 q.op, .string q.text, .int .i64 q.n, .complex .f64 q.x q.y, .slice aq q.kids.length bq] 31))
  generalize w4.heap.size = BQ at *
  generalize w4.alloc (.cells #[.int .i64 q.op, .string q.text, .int .i64 q.n, .complex .f64 q.x q.y, .slice aq q.kids.length bq] 31) = w4' at *
  have lOXr := OXr.out.cell
  have zOXr := OXr.out.lt
  refine (conv_calls r (.slice or r.kids.length cr) _ LXr.out hsr).mono ?_
  rintro e w5 ⟨vr, rfl, hlr, hb⟩
  obtain ⟨ar, br, rfl⟩ := lies_val hlr
  have MR := Lib.hid (hlr.mono (S' := fun b => b < w5.heap.size) (fun _ _ _ => rfl) (fun _ h => h.2))
  clear hlr
  clear lOXr zOXr
  replace OP := Lib.hid (OP.out.later hb)
  replace OQ := Lib.hid (OQ.out.later hb)
  replace MP := Lib.hid (MP.out.later hb (Nat.le_refl _))
  replace MQ := Lib.hid (MQ.out.later hb (Nat.le_refl _))
  replace BEL := Lib.hid (BEL.out.trans (hb.mono BEL.out.size))
  clear hb
  clear OXr LXr
  have lOP := OP.out.cell
  have zOP := OP.out.lt
  have lOQ := OQ.out.cell
  have zOQ := OQ.out.lt
  go_wp2_with fail
  clear lOP zOP lOQ zOQ
  replace OP := Lib.hid (OP.out.alloc (.cells #[.int .i64 r.op, .string r.text, .int .i64 r.n, .complex .f64 r.x r.y, .slice ar r.kids.length br] 31))
  replace OQ := Lib.hid (OQ.out.alloc (.cells #[.int .i64 r.op, .string r.text, .int .i64 r.n, .complex .f64 r.x r.y, .slice ar r.kids.length br] 31))
  replace MP := Lib.hid (MP.out.atAlloc (.cells #[.int .i64 r.op, .string r.text, .int .i64 r.n, .complex .f64 r.x r.y, .slice ar r.kids.length br] 31))
  replace MQ := Lib.hid (MQ.out.atAlloc (.cells #[.int .i64 r.op, .string r.text, .int .i64 r.n, .complex .f64 r.x r.y, .slice ar r.kids.length br] 31))
  replace MR := Lib.hid (MR.out.atAlloc (.cells #[.int .i64 r.op, .string r.text, .int .i64 r.n, .complex .f64 r.x r.y, .slice ar r.kids.length br] 31))
  have OR := Lib.hid (Own.new w5 #[.int .i64 r.op, .string r.text, .int .i64 r.n, .complex .f64 r.x r.y, .slice ar r.kids.length br] 31)
  replace BEL := Lib.hid (BEL.out.alloc BEL.out.size (.cells #[.int .i64 r.op, .string r.text, .int .i64 r.n, .complex .f64 r.x r.y, .slice ar r.kids.length br] 31))
  generalize w5.heap.size = BR at *
  generalize w5.alloc (.cells #[.int .i64 r.op, .string r.text, .int .i64 r.n, .complex .f64 r.x r.y, .slice ar r.kids.length br] 31) = w5' at *
  generalize w5' = wz at *
  refine (predMay_calls p (.slice ap p.kids.length bp) _ MP.out).mono ?_; rintro e wa ⟨rfl, hb⟩
  replace OP := Lib.hid (OP.out.later hb)
  replace OQ := Lib.hid (OQ.out.later hb)
  replace OR := Lib.hid (OR.out.later hb)
  replace MP := Lib.hid (MP.out.later hb (Nat.le_refl _))
  replace MQ := Lib.hid (MQ.out.later hb (Nat.le_refl _))
  replace MR := Lib.hid (MR.out.later hb (Nat.le_refl _))
  replace BEL := Lib.hid (BEL.out.trans (hb.mono BEL.out.size))
  clear hb
  cases hmp : p.mayB
  case false =>
    have lOP := OP.out.cell
    have zOP := OP.out.lt
    have lOQ := OQ.out.cell
    have zOQ := OQ.out.lt
    go_wp2_with fail
    refine (inC_calls p q (.slice ap p.kids.length bp) (.slice aq q.kids.length bq) _ MP.out MQ.out hsp hsq (Pr.in_not (.inl hmp))).mono ?_; rintro e wn ⟨rfl, hb⟩
    clear lOP zOP lOQ zOQ
    replace BEL := Lib.hid (BEL.out.trans (hb.mono BEL.out.size))
    clear hb
    go_wp2_with fail
    go_ret
    exact ⟨rfl, BEL.out⟩
  have lOQ := OQ.out.cell
  have zOQ := OQ.out.lt
  go_wp2_with fail
  refine (predMay_calls q (.slice aq q.kids.length bq) _ MQ.out).mono ?_; rintro e wb ⟨rfl, hb⟩
  clear lOQ zOQ
  replace OP := Lib.hid (OP.out.later hb)
  replace OQ := Lib.hid (OQ.out.later hb)
  replace OR := Lib.hid (OR.out.later hb)
  replace MP := Lib.hid (MP.out.later hb (Nat.le_refl _))
  replace MQ := Lib.hid (MQ.out.later hb (Nat.le_refl _))
  replace MR := Lib.hid (MR.out.later hb (Nat.le_refl _))
  replace BEL := Lib.hid (BEL.out.trans (hb.mono BEL.out.size))
  clear hb
  cases hmq : q.mayB
  case false =>
    have lOP := OP.out.cell
    have zOP := OP.out.lt
    have lOQ := OQ.out.cell
    have zOQ := OQ.out.lt
    go_wp2_with fail
    refine (inC_calls p q (.slice ap p.kids.length bp) (.slice aq q.kids.length bq) _ MP.out MQ.out hsp hsq (Pr.in_not (.inr hmq))).mono ?_; rintro e wn ⟨rfl, hb⟩
    clear lOP zOP lOQ zOQ
    replace BEL := Lib.hid (BEL.out.trans (hb.mono BEL.out.size))
    clear hb
    go_wp2_with fail
    go_ret
    exact ⟨rfl, BEL.out⟩
  have lOP := OP.out.cell
  have zOP := OP.out.lt
  go_wp2_with fail
  refine (inC_calls p p (.slice ap p.kids.length bp) (.slice ap p.kids.length bp) _ MP.out MP.out hsp hsp (Pr.in_self hmp)).mono ?_; rintro e wc ⟨rfl, hb⟩
  clear lOP zOP
  replace OP := Lib.hid (OP.out.later hb)
  replace OQ := Lib.hid (OQ.out.later hb)
  replace OR := Lib.hid (OR.out.later hb)
  replace MP := Lib.hid (MP.out.later hb (Nat.le_refl _))
  replace MQ := Lib.hid (MQ.out.later hb (Nat.le_refl _))
  replace MR := Lib.hid (MR.out.later hb (Nat.le_refl _))
  replace BEL := Lib.hid (BEL.out.trans (hb.mono BEL.out.size))
  clear hb
  have lOP := OP.out.cell
  have zOP := OP.out.lt
  go_wp2_with fail
  refine (inS_calls p (.slice ap p.kids.length bp) (.slice none 0 0) _ MP.out hsp hmp (lies_leaf 1 ⟨#[]⟩ 0 0 0 (by decide))).mono ?_; rintro e wd ⟨rfl, hb⟩
  clear lOP zOP
  replace OP := Lib.hid (OP.out.later hb)
  replace OQ := Lib.hid (OQ.out.later hb)
  replace OR := Lib.hid (OR.out.later hb)
  replace MP := Lib.hid (MP.out.later hb (Nat.le_refl _))
  replace MQ := Lib.hid (MQ.out.later hb (Nat.le_refl _))
  replace MR := Lib.hid (MR.out.later hb (Nat.le_refl _))
  replace BEL := Lib.hid (BEL.out.trans (hb.mono BEL.out.size))
  clear hb
  have lOP := OP.out.cell
  have zOP := OP.out.lt
  go_wp2_with fail
  refine (inN_calls p (.slice ap p.kids.length bp) (.slice none 0 0) _ MP.out hsp hmp (lies_leaf 2 ⟨#[]⟩ 0 0 0 (by decide))).mono ?_; rintro e we ⟨rfl, hb⟩
  clear lOP zOP
  replace OP := Lib.hid (OP.out.later hb)
  replace OQ := Lib.hid (OQ.out.later hb)
  replace OR := Lib.hid (OR.out.later hb)
  replace MP := Lib.hid (MP.out.later hb (Nat.le_refl _))
  replace MQ := Lib.hid (MQ.out.later hb (Nat.le_refl _))
  replace MR := Lib.hid (MR.out.later hb (Nat.le_refl _))
  replace BEL := Lib.hid (BEL.out.trans (hb.mono BEL.out.size))
  clear hb
  have hb : Below we.heap.size we ((((we.alloc (.cells #[.int .i64 p.op, .string p.text, .int .i64 p.n, .complex .f64 p.x p.y, .slice ap p.kids.length bp, .int .i64 r.op, .string r.text, .int .i64 r.n, .complex .f64 r.x r.y, .slice ar r.kids.length br] 31)).alloc (.cells #[.int .i64 8, .string ⟨#[]⟩, .int .i64 0, .complex .f64 0 0, .slice (some ⟨we.heap.size, 0, none⟩) 2 2] 31)).alloc (.cells #[.int .i64 r.op, .string r.text, .int .i64 r.n, .complex .f64 r.x r.y, .slice ar r.kids.length br, .int .i64 q.op, .string q.text, .int .i64 q.n, .complex .f64 q.x q.y, .slice aq q.kids.length bq] 31)).alloc (.cells #[.int .i64 9, .string ⟨#[]⟩, .int .i64 0, .complex .f64 0 0, .slice (some ⟨we.heap.size + 1 + 1, 0, none⟩) 2 2] 31)) := ((((Below.refl _ _).alloc (Nat.le_refl _) _).alloc (by simp) _).alloc (by simp; omega) _).alloc (by simp; omega) _
  have xOP := (OP.out.later hb).cell
  have xOQ := (OQ.out.later hb).cell
  have xOR := (OR.out.later hb).cell
  have lOP := OP.out.cell
  have zOP := OP.out.lt
  have lOQ := OQ.out.cell
  have zOQ := OQ.out.lt
  have lOR := OR.out.cell
  have zOR := OR.out.lt
  go_wp2_with fail
  clear lOP zOP lOQ zOQ lOR zOR
  clear xOP xOQ xOR
  have N1 := Lib.hid ((((Own.new we #[.int .i64 p.op, .string p.text, .int .i64 p.n, .complex .f64 p.x p.y, .slice ap p.kids.length bp, .int .i64 r.op, .string r.text, .int .i64 r.n, .complex .f64 r.x r.y, .slice ar r.kids.length br] 31).alloc (.cells #[.int .i64 8, .string ⟨#[]⟩, .int .i64 0, .complex .f64 0 0, .slice (some ⟨we.heap.size, 0, none⟩) 2 2] 31)).alloc (.cells #[.int .i64 r.op, .string r.text, .int .i64 r.n, .complex .f64 r.x r.y, .slice ar r.kids.length br, .int .i64 q.op, .string q.text, .int .i64 q.n, .complex .f64 q.x q.y, .slice aq q.kids.length bq] 31)).alloc (.cells #[.int .i64 9, .string ⟨#[]⟩, .int .i64 0, .complex .f64 0 0, .slice (some ⟨we.heap.size + 1 + 1, 0, none⟩) 2 2] 31))
  have N2 := Lib.hid (((Own.newAt (we.alloc (.cells #[.int .i64 p.op, .string p.text, .int .i64 p.n, .complex .f64 p.x p.y, .slice ap p.kids.length bp, .int .i64 r.op, .string r.text, .int .i64 r.n, .complex .f64 r.x r.y, .slice ar r.kids.length br] 31)) #[.int .i64 8, .string ⟨#[]⟩, .int .i64 0, .complex .f64 0 0, .slice (some ⟨we.heap.size, 0, none⟩) 2 2] 31 (b := we.heap.size + 1) (by simp)).alloc (.cells #[.int .i64 r.op, .string r.text, .int .i64 r.n, .complex .f64 r.x r.y, .slice ar r.kids.length br, .int .i64 q.op, .string q.text, .int .i64 q.n, .complex .f64 q.x q.y, .slice aq q.kids.length bq] 31)).alloc (.cells #[.int .i64 9, .string ⟨#[]⟩, .int .i64 0, .complex .f64 0 0, .slice (some ⟨we.heap.size + 1 + 1, 0, none⟩) 2 2] 31))
  have N3 := Lib.hid ((Own.newAt ((we.alloc (.cells #[.int .i64 p.op, .string p.text, .int .i64 p.n, .complex .f64 p.x p.y, .slice ap p.kids.length bp, .int .i64 r.op, .string r.text, .int .i64 r.n, .complex .f64 r.x r.y, .slice ar r.kids.length br] 31)).alloc (.cells #[.int .i64 8, .string ⟨#[]⟩, .int .i64 0, .complex .f64 0 0, .slice (some ⟨we.heap.size, 0, none⟩) 2 2] 31)) #[.int .i64 r.op, .string r.text, .int .i64 r.n, .complex .f64 r.x r.y, .slice ar r.kids.length br, .int .i64 q.op, .string q.text, .int .i64 q.n, .complex .f64 q.x q.y, .slice aq q.kids.length bq] 31 (b := we.heap.size + 1 + 1) (by simp)).alloc (.cells #[.int .i64 9, .string ⟨#[]⟩, .int .i64 0, .complex .f64 0 0, .slice (some ⟨we.heap.size + 1 + 1, 0, none⟩) 2 2] 31))
  have N4 := Lib.hid (Own.newAt (((we.alloc (.cells #[.int .i64 p.op, .string p.text, .int .i64 p.n, .complex .f64 p.x p.y, .slice ap p.kids.length bp, .int .i64 r.op, .string r.text, .int .i64 r.n, .complex .f64 r.x r.y, .slice ar r.kids.length br] 31)).alloc (.cells #[.int .i64 8, .string ⟨#[]⟩, .int .i64 0, .complex .f64 0 0, .slice (some ⟨we.heap.size, 0, none⟩) 2 2] 31)).alloc (.cells #[.int .i64 r.op, .string r.text, .int .i64 r.n, .complex .f64 r.x r.y, .slice ar r.kids.length br, .int .i64 q.op, .string q.text, .int .i64 q.n, .complex .f64 q.x q.y, .slice aq q.kids.length bq] 31)) #[.int .i64 9, .string ⟨#[]⟩, .int .i64 0, .complex .f64 0 0, .slice (some ⟨we.heap.size + 1 + 1, 0, none⟩) 2 2] 31 (b := we.heap.size + 1 + 1 + 1) (by simp))
  replace OP := Lib.hid (OP.out.later hb)
  replace OQ := Lib.hid (OQ.out.later hb)
  replace OR := Lib.hid (OR.out.later hb)
  replace MP := Lib.hid (MP.out.later hb (Nat.le_refl _))
  replace MQ := Lib.hid (MQ.out.later hb (Nat.le_refl _))
  replace MR := Lib.hid (MR.out.later hb (Nat.le_refl _))
  replace BEL := Lib.hid (BEL.out.trans (hb.mono BEL.out.size))
  clear hb
  generalize ((((we.alloc (.cells #[.int .i64 p.op, .string p.text, .int .i64 p.n, .complex .f64 p.x p.y, .slice ap p.kids.length bp, .int .i64 r.op, .string r.text, .int .i64 r.n, .complex .f64 r.x r.y, .slice ar r.kids.length br] 31)).alloc (.cells #[.int .i64 8, .string ⟨#[]⟩, .int .i64 0, .complex .f64 0 0, .slice (some ⟨we.heap.size, 0, none⟩) 2 2] 31)).alloc (.cells #[.int .i64 r.op, .string r.text, .int .i64 r.n, .complex .f64 r.x r.y, .slice ar r.kids.length br, .int .i64 q.op, .string q.text, .int .i64 q.n, .complex .f64 q.x q.y, .slice aq q.kids.length bq] 31)).alloc (.cells #[.int .i64 9, .string ⟨#[]⟩, .int .i64 0, .complex .f64 0 0, .slice (some ⟨we.heap.size + 1 + 1, 0, none⟩) 2 2] 31)) = wf at *
  have KA := Lib.hid (lies_two_kids (p := p) (q := r) N1.out MP.out MR.out 8)
  have KO := Lib.hid (lies_two_kids (p := r) (q := q) N3.out MR.out MQ.out 9)
  clear N1 N3
  have HB1 := fun h hm => Pr.in_both (p := p) (q := q) (r := r) h hm
  have HB2 := fun h hm => Pr.in_some (p := p) (q := q) (r := r) h hm
  refine (contIn_calls p q (.slice ap p.kids.length bp) (.slice aq q.kids.length bq) _ MP.out MQ.out (by omega) (by omega)).mono ?_; rintro e wg ⟨rfl, hb⟩
  replace OP := Lib.hid (OP.out.later hb)
  replace OQ := Lib.hid (OQ.out.later hb)
  replace OR := Lib.hid (OR.out.later hb)
  replace N2 := Lib.hid (N2.out.later hb)
  replace N4 := Lib.hid (N4.out.later hb)
  replace MP := Lib.hid (MP.out.later hb (Nat.le_refl _))
  replace MQ := Lib.hid (MQ.out.later hb (Nat.le_refl _))
  replace MR := Lib.hid (MR.out.later hb (Nat.le_refl _))
  replace KA := Lib.hid (KA.out.later hb (Nat.le_refl _))
  replace KO := Lib.hid (KO.out.later hb (Nat.le_refl _))
  replace BEL := Lib.hid (BEL.out.trans (hb.mono BEL.out.size))
  clear hb
  cases hin : Pr.inB p q
  case false =>
    go_wp2_with fail
    go_ret
    exact ⟨rfl, BEL.out⟩
  have lN2 := N2.out.cell
  have zN2 := N2.out.lt
  go_wp2_with fail
  refine (mayA_calls p r (.slice (some ⟨we.heap.size, 0, none⟩) 2 2) _ KA.out).mono ?_; rintro e wh ⟨rfl, hb⟩
  clear lN2 zN2
  replace OP := Lib.hid (OP.out.later hb)
  replace OQ := Lib.hid (OQ.out.later hb)
  replace OR := Lib.hid (OR.out.later hb)
  replace N2 := Lib.hid (N2.out.later hb)
  replace N4 := Lib.hid (N4.out.later hb)
  replace MP := Lib.hid (MP.out.later hb (Nat.le_refl _))
  replace MQ := Lib.hid (MQ.out.later hb (Nat.le_refl _))
  replace MR := Lib.hid (MR.out.later hb (Nat.le_refl _))
  replace KA := Lib.hid (KA.out.later hb (Nat.le_refl _))
  replace KO := Lib.hid (KO.out.later hb (Nat.le_refl _))
  replace BEL := Lib.hid (BEL.out.trans (hb.mono BEL.out.size))
  clear hb
  cases hma : (Pr.nodeA p r).mayB
  case false =>
    have lN4 := N4.out.cell
    have zN4 := N4.out.lt
    go_wp2_with fail
    refine (mayO5_calls r q (.slice (some ⟨we.heap.size + 1 + 1, 0, none⟩) 2 2) _ KO.out).mono ?_; rintro e wi ⟨rfl, hb⟩
    clear lN4 zN4
    replace OP := Lib.hid (OP.out.later hb)
    replace OQ := Lib.hid (OQ.out.later hb)
    replace OR := Lib.hid (OR.out.later hb)
    replace N2 := Lib.hid (N2.out.later hb)
    replace N4 := Lib.hid (N4.out.later hb)
    replace MP := Lib.hid (MP.out.later hb (Nat.le_refl _))
    replace MQ := Lib.hid (MQ.out.later hb (Nat.le_refl _))
    replace MR := Lib.hid (MR.out.later hb (Nat.le_refl _))
    replace KA := Lib.hid (KA.out.later hb (Nat.le_refl _))
    replace KO := Lib.hid (KO.out.later hb (Nat.le_refl _))
    replace BEL := Lib.hid (BEL.out.trans (hb.mono BEL.out.size))
    clear hb
    cases hmo : (nodeO r q).mayB
    case false =>
      go_wp2_with fail
      go_ret
      exact ⟨rfl, BEL.out⟩
    have lOP := OP.out.cell
    have zOP := OP.out.lt
    have lN4 := N4.out.cell
    have zN4 := N4.out.lt
    go_wp2_with fail
    refine (inO_calls p r q (.slice ap p.kids.length bp) (.slice (some ⟨we.heap.size + 1 + 1, 0, none⟩) 2 2) _ MP.out KO.out hsp hsr hsq (HB2 hin hmo)).mono ?_; rintro e wj ⟨rfl, hb⟩
    clear lOP zOP lN4 zN4
    replace BEL := Lib.hid (BEL.out.trans (hb.mono BEL.out.size))
    clear hb
    go_wp2_with fail
    go_ret
    exact ⟨rfl, BEL.out⟩
  have lOQ := OQ.out.cell
  have zOQ := OQ.out.lt
  have lN2 := N2.out.cell
  have zN2 := N2.out.lt
  go_wp2_with fail
  refine (inA_calls p r q (.slice (some ⟨we.heap.size, 0, none⟩) 2 2) (.slice aq q.kids.length bq) _ KA.out MQ.out hsp hsr hsq (HB1 hin hma)).mono ?_; rintro e wk ⟨rfl, hb⟩
  clear lOQ zOQ lN2 zN2
  replace OP := Lib.hid (OP.out.later hb)
  replace OQ := Lib.hid (OQ.out.later hb)
  replace OR := Lib.hid (OR.out.later hb)
  replace N2 := Lib.hid (N2.out.later hb)
  replace N4 := Lib.hid (N4.out.later hb)
  replace MP := Lib.hid (MP.out.later hb (Nat.le_refl _))
  replace MQ := Lib.hid (MQ.out.later hb (Nat.le_refl _))
  replace MR := Lib.hid (MR.out.later hb (Nat.le_refl _))
  replace KA := Lib.hid (KA.out.later hb (Nat.le_refl _))
  replace KO := Lib.hid (KO.out.later hb (Nat.le_refl _))
  replace BEL := Lib.hid (BEL.out.trans (hb.mono BEL.out.size))
  clear hb
  have lN4 := N4.out.cell
  have zN4 := N4.out.lt
  go_wp2_with fail
  refine (mayO5_calls r q (.slice (some ⟨we.heap.size + 1 + 1, 0, none⟩) 2 2) _ KO.out).mono ?_; rintro e wi ⟨rfl, hb⟩
  clear lN4 zN4
  replace OP := Lib.hid (OP.out.later hb)
  replace OQ := Lib.hid (OQ.out.later hb)
  replace OR := Lib.hid (OR.out.later hb)
  replace N2 := Lib.hid (N2.out.later hb)
  replace N4 := Lib.hid (N4.out.later hb)
  replace MP := Lib.hid (MP.out.later hb (Nat.le_refl _))
  replace MQ := Lib.hid (MQ.out.later hb (Nat.le_refl _))
  replace MR := Lib.hid (MR.out.later hb (Nat.le_refl _))
  replace KA := Lib.hid (KA.out.later hb (Nat.le_refl _))
  replace KO := Lib.hid (KO.out.later hb (Nat.le_refl _))
  replace BEL := Lib.hid (BEL.out.trans (hb.mono BEL.out.size))
  clear hb
  cases hmo : (nodeO r q).mayB
  case false =>
    go_wp2_with fail
    go_ret
    exact ⟨rfl, BEL.out⟩
  have lOP := OP.out.cell
  have zOP := OP.out.lt
  have lN4 := N4.out.cell
  have zN4 := N4.out.lt
  go_wp2_with fail
  refine (inO_calls p r q (.slice ap p.kids.length bp) (.slice (some ⟨we.heap.size + 1 + 1, 0, none⟩) 2 2) _ MP.out KO.out hsp hsr hsq (HB2 hin hmo)).mono ?_; rintro e wj ⟨rfl, hb⟩
  clear lOP zOP lN4 zN4
  replace BEL := Lib.hid (BEL.out.trans (hb.mono BEL.out.size))
  clear hb
  go_wp2_with fail
  go_ret
  exact ⟨rfl, BEL.out⟩

end Go.Proofs.Ytkdgbnihcfahiaa
