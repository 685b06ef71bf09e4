/- 'ContainTells' returns true, whatever it is given: the walk. -/
import Derived.Test.YtkdgbnihcfahiaaContUp
import Derived.Test.YtkdgbnihcfahiaaLeft
import Derived.Test.YtkdgbnihcfahiaaConv
import Derived.Test.YtkdgbnihcfahiaaRefSeen
import Derived.Deep.DeepCutAuto
namespace Go.Proofs.Ytkdgbnihcfahiaa
open Go.RowKit

set_option maxRecDepth 100000 in
set_option maxHeartbeats 8000000 in
theorem containTells_calls (p : Pr) (q : Pr) (kp : Value) (kq : Value) (w : World) (hp : LT w p kp) (hq : LT w q kq) :
    Calls Try.prog 3 #[.agg #[.int .i64 p.op, .string p.text, .int .i64 p.n, .float .f64 p.x, .float .f64 p.y, kp], .agg #[.int .i64 q.op, .string q.text, .int .i64 q.n, .float .f64 q.x, .float .f64 q.y, kq]] w fun e w' => e = .returned (.bool true) ∧ Below w.heap.size w w' := by
  obtain ⟨op, cp, rfl⟩ := lies_val hp
  obtain ⟨oq, cq, rfl⟩ := lies_val hq
  have U := fun w => Lib.hid (up5_calls w)
  have OXp := Lib.hid ((Own.newAt w #[.int .i64 p.op, .string p.text, .int .i64 p.n, .float .f64 p.x, .float .f64 p.y, (.slice op p.kids.length cp)] 25 (b := w.heap.size) (by simp)).alloc (.cells #[.int .i64 q.op, .string q.text, .int .i64 q.n, .float .f64 q.x, .float .f64 q.y, (.slice oq q.kids.length cq)] 25))
  have OXq := Lib.hid (Own.newAt (w.alloc (.cells #[.int .i64 p.op, .string p.text, .int .i64 p.n, .float .f64 p.x, .float .f64 p.y, (.slice op p.kids.length cp)] 25)) #[.int .i64 q.op, .string q.text, .int .i64 q.n, .float .f64 q.x, .float .f64 q.y, (.slice oq q.kids.length cq)] 25 (b := w.heap.size + 1) (by simp))
  have BEL := Lib.hid (((Below.refl w.heap.size w).alloc (by omega) (.cells #[.int .i64 p.op, .string p.text, .int .i64 p.n, .float .f64 p.x, .float .f64 p.y, (.slice op p.kids.length cp)] 25)).alloc (by simp; try omega) (.cells #[.int .i64 q.op, .string q.text, .int .i64 q.n, .float .f64 q.x, .float .f64 q.y, (.slice oq q.kids.length cq)] 25))
  have LXp := Lib.hid (hp.later BEL.out (Nat.le_refl _))
  have LXq := Lib.hid (hq.later BEL.out (Nat.le_refl _))
  clear hp hq
  go_enter Try.func3, Try.ntmps3
  go_wp2_with fail
  refine (U _).out.mono ?_; rintro e w1 ⟨rfl, hb⟩
  replace OXp := Lib.hid (OXp.out.later hb)
  replace OXq := Lib.hid (OXq.out.later hb)
  replace LXp := Lib.hid (LXp.out.later hb (Nat.le_refl _))
  replace LXq := Lib.hid (LXq.out.later hb (Nat.le_refl _))
  replace BEL := Lib.hid (BEL.out.trans (hb.mono BEL.out.size))
  clear hb
  clear U
  have LOXp := fun dd os o => OXp.out.has.regrown dd os o
  have LOXq := fun dd os o => OXq.out.has.regrown dd os o
  have msp := fun dd os => Lib.hid (Calls.regrown_of (small_calls p (.slice op p.kids.length cp) (Sort.grow (redrawn w1 dd) os) (LXp.out.later (below_regrown _ _ _) (Nat.le_refl _))))
  have msq := fun dd os => Lib.hid (Calls.regrown_of (small_calls q (.slice oq q.kids.length cq) (Sort.grow (redrawn w1 dd) os) (LXq.out.later (below_regrown _ _ _) (Nat.le_refl _))))
  by_cases hsp : p.size ≤ 60
  case neg =>
    simp only [if_neg hsp] at msp
    by_cases hsq : q.size ≤ 60
    case neg =>
      simp only [if_neg hsq] at msq
      go_wp2_with fail
      refine wp_region_quiet_below (by kernel_rfl) (by kernel_rfl) ?_
      repeat (first | go_big_quiet_step ((first | (with_reducible exact (msp _ _).out) | (with_reducible exact (msq _ _).out))) | quiet_step (first | (with_reducible exact (msp _ _).out) | (with_reducible exact (msq _ _).out)))
      refine wpQuiet_nil ?_
      intro w2 hw'
      have hb := regrown_below hw'
      clear hw' msp msq
      clear LOXp LOXq
      replace OXp := Lib.hid (OXp.out.later hb)
      replace OXq := Lib.hid (OXq.out.later hb)
      replace LXp := Lib.hid (LXp.out.later hb (Nat.le_refl _))
      replace LXq := Lib.hid (LXq.out.later hb (Nat.le_refl _))
      replace BEL := Lib.hid (BEL.out.trans (hb.mono BEL.out.size))
      clear hb
      go_wp2_with fail
      go_ret
      exact ⟨rfl, BEL.out⟩
    simp only [if_pos hsq] at msq
    go_wp2_with fail
    refine wp_region_quiet_below (by kernel_rfl) (by kernel_rfl) ?_
    repeat (first | go_big_quiet_step ((first | (with_reducible exact (msp _ _).out) | (with_reducible exact (msq _ _).out))) | quiet_step (first | (with_reducible exact (msp _ _).out) | (with_reducible exact (msq _ _).out)))
    refine wpQuiet_nil ?_
    intro w2 hw'
    have hb := regrown_below hw'
    clear hw' msp msq
    clear LOXp LOXq
    replace OXp := Lib.hid (OXp.out.later hb)
    replace OXq := Lib.hid (OXq.out.later hb)
    replace LXp := Lib.hid (LXp.out.later hb (Nat.le_refl _))
    replace LXq := Lib.hid (LXq.out.later hb (Nat.le_refl _))
    replace BEL := Lib.hid (BEL.out.trans (hb.mono BEL.out.size))
    clear hb
    go_wp2_with fail
    go_ret
    exact ⟨rfl, BEL.out⟩
  simp only [if_pos hsp] at msp
  by_cases hsq : q.size ≤ 60
  case neg =>
    simp only [if_neg hsq] at msq
    go_wp2_with fail
    refine wp_region_quiet_below (by kernel_rfl) (by kernel_rfl) ?_
    repeat (first | go_big_quiet_step ((first | (with_reducible exact (msp _ _).out) | (with_reducible exact (msq _ _).out))) | quiet_step (first | (with_reducible exact (msp _ _).out) | (with_reducible exact (msq _ _).out)))
    refine wpQuiet_nil ?_
    intro w2 hw'
    have hb := regrown_below hw'
    clear hw' msp msq
    clear LOXp LOXq
    replace OXp := Lib.hid (OXp.out.later hb)
    replace OXq := Lib.hid (OXq.out.later hb)
    replace LXp := Lib.hid (LXp.out.later hb (Nat.le_refl _))
    replace LXq := Lib.hid (LXq.out.later hb (Nat.le_refl _))
    replace BEL := Lib.hid (BEL.out.trans (hb.mono BEL.out.size))
    clear hb
    go_wp2_with fail
    go_ret
    exact ⟨rfl, BEL.out⟩
  simp only [if_pos hsq] at msq
  go_wp2_with fail
  refine wp_region_quiet_below (by kernel_rfl) (by kernel_rfl) ?_
  repeat (first | go_big_quiet_step ((first | (with_reducible exact (msp _ _).out) | (with_reducible exact (msq _ _).out))) | quiet_step (first | (with_reducible exact (msp _ _).out) | (with_reducible exact (msq _ _).out)))
  refine wpQuiet_nil ?_
  intro w2 hw'
  have hb := regrown_below hw'
  clear hw' msp msq
  clear LOXp LOXq
  replace OXp := Lib.hid (OXp.out.later hb)
  replace OXq := Lib.hid (OXq.out.later hb)
  replace LXp := Lib.hid (LXp.out.later hb (Nat.le_refl _))
  replace LXq := Lib.hid (LXq.out.later hb (Nat.le_refl _))
  replace BEL := Lib.hid (BEL.out.trans (hb.mono BEL.out.size))
  clear hb
  have lOXp := OXp.out.cell
  have zOXp := OXp.out.lt
  have lOXq := OXq.out.cell
  have zOXq := OXq.out.lt
  go_wp2_with fail
  refine (conv_calls p (.slice op p.kids.length cp) _ LXp.out hsp).mono ?_
  rintro e w3 ⟨vp, rfl, hlp, hb⟩
  obtain ⟨ap, bp, rfl⟩ := lies_val hlp
  have MP := Lib.hid (hlp.mono (S' := fun b => b < w3.heap.size) (fun _ _ _ => rfl) (fun _ h => h.2))
  clear hlp
  clear lOXp zOXp lOXq zOXq
  replace OXq := Lib.hid (OXq.out.later hb)
  replace LXq := Lib.hid (LXq.out.later hb (Nat.le_refl _))
  replace BEL := Lib.hid (BEL.out.trans (hb.mono BEL.out.size))
  clear hb
  clear OXp LXp
  have lOXq := OXq.out.cell
  have zOXq := OXq.out.lt
  go_wp2_with fail
  clear lOXq zOXq
  replace OXq := Lib.hid (OXq.out.alloc (.cells #[.int .i64 p.op, .string p.text, .int .i64 p.n, .complex .f64 p.x p.y, .slice ap p.kids.length bp] 31))
  replace LXq := Lib.hid (LXq.out.atAlloc (.cells #[.int .i64 p.op, .string p.text, .int .i64 p.n, .complex .f64 p.x p.y, .slice ap p.kids.length bp] 31))
  replace MP := Lib.hid (MP.out.atAlloc (.cells #[.int .i64 p.op, .string p.text, .int .i64 p.n, .complex .f64 p.x p.y, .slice ap p.kids.length bp] 31))
  have OP := Lib.hid (Own.new w3 #[.int .i64 p.op, .string p.text, .int .i64 p.n, .complex .f64 p.x p.y, .slice ap p.kids.length bp] 31)
  replace BEL := Lib.hid (BEL.out.alloc BEL.out.size (.cells #[.int .i64 p.op, .string p.text, .int .i64 p.n, .complex .f64 p.x p.y, .slice ap p.kids.length bp] 31))
  generalize w3.heap.size = BP at *
  generalize w3.alloc (.cells #[.int .i64 p.op, .string p.text, .int .i64 p.n, .complex .f64 p.x p.y, .slice ap p.kids.length bp] 31) = w3' at *
  have lOXq := OXq.out.cell
  have zOXq := OXq.out.lt
  refine (conv_calls q (.slice oq q.kids.length cq) _ LXq.out hsq).mono ?_
  rintro e w4 ⟨vq, rfl, hlq, hb⟩
  obtain ⟨aq, bq, rfl⟩ := lies_val hlq
  have MQ := Lib.hid (hlq.mono (S' := fun b => b < w4.heap.size) (fun _ _ _ => rfl) (fun _ h => h.2))
  clear hlq
  clear lOXq zOXq
  replace OP := Lib.hid (OP.out.later hb)
  replace MP := Lib.hid (MP.out.later hb (Nat.le_refl _))
  replace BEL := Lib.hid (BEL.out.trans (hb.mono BEL.out.size))
  clear hb
  clear OXq LXq
  have lOP := OP.out.cell
  have zOP := OP.out.lt
  go_wp2_with fail
  clear lOP zOP
  replace OP := Lib.hid (OP.out.alloc (.cells #[.int .i64 q.op, .string q.text, .int .i64 q.n, .complex .f64 q.x q.y, .slice aq q.kids.length bq] 31))
  replace MP := Lib.hid (MP.out.atAlloc (.cells #[.int .i64 q.op, .string q.text, .int .i64 q.n, .complex .f64 q.x q.y, .slice aq q.kids.length bq] 31))
  replace MQ := Lib.hid (MQ.out.atAlloc (.cells #[.int .i64 q.op, .string q.text, .int .i64 q.n, .complex .f64 q.x q.y, .slice aq q.kids.length bq] 31))
  have OQ := Lib.hid (Own.new w4 #[.int .i64 q.op, .string q.text, .int .i64 q.n, .complex .f64 q.x q.y, .slice aq q.kids.length bq] 31)
  replace BEL := Lib.hid (BEL.out.alloc BEL.out.size (.cells #[.int .i64 q.op, .string q.text, .int .i64 q.n, .complex .f64 q.x q.y, .slice aq q.kids.length bq] 31))
  generalize w4.heap.size = BQ at *
  generalize w4.alloc (.cells #[.int .i64 q.op, .string q.text, .int .i64 q.n, .complex .f64 q.x q.y, .slice aq q.kids.length bq] 31) = w4' at *
  generalize w4' = wz at *
  have LOP := fun dd os o => OP.out.has.regrown dd os o
  have LOQ := fun dd os o => OQ.out.has.regrown dd os o
  have m1 := fun dd os => Lib.hid (Calls.regrown_of (contIn_calls p q (.slice ap p.kids.length bp) (.slice aq q.kids.length bq) (Sort.grow (redrawn wz dd) os) (MP.out.later (below_regrown _ _ _) (Nat.le_refl _)) (MQ.out.later (below_regrown _ _ _) (Nat.le_refl _)) (by omega) (by omega)))
  have m2 := fun dd os => Lib.hid (Calls.regrown_of (refIn_calls p q (.slice ap p.kids.length bp) (.slice aq q.kids.length bq) (Sort.grow (redrawn wz dd) os) (MP.out.later (below_regrown _ _ _) (Nat.le_refl _)) (MQ.out.later (below_regrown _ _ _) (Nat.le_refl _)) (by omega) (by omega)))
  generalize Pr.inB p q = ib at *
  refine wp_region_quiet_below (by kernel_rfl) (by kernel_rfl) ?_
  repeat (first | go_big_quiet_step ((first | (with_reducible exact (m1 _ _).out) | (with_reducible exact (m2 _ _).out))) | quiet_step (first | (with_reducible exact (m1 _ _).out) | (with_reducible exact (m2 _ _).out)))
  refine wpQuiet_nil ?_
  intro wy hw'
  have hb := regrown_below hw'
  clear hw' m1 m2
  clear LOP LOQ
  replace BEL := Lib.hid (BEL.out.trans (hb.mono BEL.out.size))
  clear hb
  go_wp2_with fail
  go_ret
  exact ⟨rfl, BEL.out⟩

end Go.Proofs.Ytkdgbnihcfahiaa
