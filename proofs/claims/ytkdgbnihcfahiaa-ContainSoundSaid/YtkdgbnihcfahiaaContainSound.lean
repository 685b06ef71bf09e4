/- 'ContainSound' returns true, whatever it is given: the walk. -/
import Derived.Test.YtkdgbnihcfahiaaContUp
import Derived.Test.YtkdgbnihcfahiaaLeft
import Derived.Test.YtkdgbnihcfahiaaConv
import Derived.Test.YtkdgbnihcfahiaaHasC
import Derived.Test.YtkdgbnihcfahiaaItemQ
import Derived.Deep.DeepCutAuto
namespace Go.Proofs.Ytkdgbnihcfahiaa
open Go.RowKit

set_option maxRecDepth 100000 in
set_option maxHeartbeats 8000000 in
theorem containSound_calls (p : Pr) (q : Pr) (kp : Value) (kq : Value) (id : ByteArray) (r c st : Int) (kd : ByteArray) (n : Int) (x y : Nat) (d : Bool) (w : World) (hp : LT w p kp) (hq : LT w q kq) (hid : id.size ≤ maxLen) :
    Calls Try.prog 4 #[.agg #[.int .i64 p.op, .string p.text, .int .i64 p.n, .float .f64 p.x, .float .f64 p.y, kp], .agg #[.int .i64 q.op, .string q.text, .int .i64 q.n, .float .f64 q.x, .float .f64 q.y, kq], rowV id r c st kd n x y d] w fun e w' => e = .returned (.bool true) ∧ Below w.heap.size w w' := by
  obtain ⟨op, cp, rfl⟩ := lies_val hp
  obtain ⟨oq, cq, rfl⟩ := lies_val hq
  have U := fun w => Lib.hid (up5_calls w)
  have OXp := Lib.hid (((Own.newAt w #[.int .i64 p.op, .string p.text, .int .i64 p.n, .float .f64 p.x, .float .f64 p.y, (.slice op p.kids.length cp)] 25 (b := w.heap.size) (by simp)).alloc (.cells #[.int .i64 q.op, .string q.text, .int .i64 q.n, .float .f64 q.x, .float .f64 q.y, (.slice oq q.kids.length cq)] 25)).alloc (.cells #[.string id, .int .i64 r, .int .i64 c, .int .i64 st, .string kd, .int .i64 n, .float .f64 x, .float .f64 y, .bool d] 36))
  have OXq := Lib.hid ((Own.newAt (w.alloc (.cells #[.int .i64 p.op, .string p.text, .int .i64 p.n, .float .f64 p.x, .float .f64 p.y, (.slice op p.kids.length cp)] 25)) #[.int .i64 q.op, .string q.text, .int .i64 q.n, .float .f64 q.x, .float .f64 q.y, (.slice oq q.kids.length cq)] 25 (b := w.heap.size + 1) (by simp)).alloc (.cells #[.string id, .int .i64 r, .int .i64 c, .int .i64 st, .string kd, .int .i64 n, .float .f64 x, .float .f64 y, .bool d] 36))
  have OXrow := Lib.hid (Own.newAt ((w.alloc (.cells #[.int .i64 p.op, .string p.text, .int .i64 p.n, .float .f64 p.x, .float .f64 p.y, (.slice op p.kids.length cp)] 25)).alloc (.cells #[.int .i64 q.op, .string q.text, .int .i64 q.n, .float .f64 q.x, .float .f64 q.y, (.slice oq q.kids.length cq)] 25)) #[.string id, .int .i64 r, .int .i64 c, .int .i64 st, .string kd, .int .i64 n, .float .f64 x, .float .f64 y, .bool d] 36 (b := w.heap.size + 1 + 1) (by simp))
  have BEL := Lib.hid ((((Below.refl w.heap.size w).alloc (by omega) (.cells #[.int .i64 p.op, .string p.text, .int .i64 p.n, .float .f64 p.x, .float .f64 p.y, (.slice op p.kids.length cp)] 25)).alloc (by simp; try omega) (.cells #[.int .i64 q.op, .string q.text, .int .i64 q.n, .float .f64 q.x, .float .f64 q.y, (.slice oq q.kids.length cq)] 25)).alloc (by simp; try omega) (.cells #[.string id, .int .i64 r, .int .i64 c, .int .i64 st, .string kd, .int .i64 n, .float .f64 x, .float .f64 y, .bool d] 36))
  have LXp := Lib.hid (hp.later BEL.out (Nat.le_refl _))
  have LXq := Lib.hid (hq.later BEL.out (Nat.le_refl _))
  clear hp hq
  go_enter Try.func4, Try.ntmps4
  go_wp2_with fail
  refine (U _).out.mono ?_; rintro e w1 ⟨rfl, hb⟩
  replace OXp := Lib.hid (OXp.out.later hb)
  replace OXq := Lib.hid (OXq.out.later hb)
  replace OXrow := Lib.hid (OXrow.out.later hb)
  replace LXp := Lib.hid (LXp.out.later hb (Nat.le_refl _))
  replace LXq := Lib.hid (LXq.out.later hb (Nat.le_refl _))
  replace BEL := Lib.hid (BEL.out.trans (hb.mono BEL.out.size))
  clear hb
  clear U
  have LOXp := fun dd os o => OXp.out.has.regrown dd os o
  have LOXq := fun dd os o => OXq.out.has.regrown dd os o
  have LOXrow := fun dd os o => OXrow.out.has.regrown dd os o
  have msp := fun dd os => Lib.hid (Calls.regrown_of (small_calls p (.slice op p.kids.length cp) (Sort.grow (redrawn w1 dd) os) (LXp.out.later (below_regrown _ _ _) (Nat.le_refl _))))
  have msq := fun dd os => Lib.hid (Calls.regrown_of (small_calls q (.slice oq q.kids.length cq) (Sort.grow (redrawn w1 dd) os) (LXq.out.later (below_regrown _ _ _) (Nat.le_refl _))))
  by_cases hsp : p.size ≤ 60
  case neg =>
    simp only [if_neg hsp] at msp
    by_cases hsq : q.size ≤ 60
    case neg =>
      simp only [if_neg hsq] at msq
      go_wp2_with fail
      refine wp_region_quiet_below (by kernel_rfl) (by kernel_rfl) ?_
      repeat (first | go_big_quiet_step ((first | (with_reducible exact (msp _ _).out) | (with_reducible exact (msq _ _).out))) | quiet_step (first | (with_reducible exact (msp _ _).out) | (with_reducible exact (msq _ _).out)))
      refine wpQuiet_nil ?_
      intro w2 hw'
      have hb := regrown_below hw'
      clear hw' msp msq
      clear LOXp LOXq LOXrow
      replace OXp := Lib.hid (OXp.out.later hb)
      replace OXq := Lib.hid (OXq.out.later hb)
      replace OXrow := Lib.hid (OXrow.out.later hb)
      replace LXp := Lib.hid (LXp.out.later hb (Nat.le_refl _))
      replace LXq := Lib.hid (LXq.out.later hb (Nat.le_refl _))
      replace BEL := Lib.hid (BEL.out.trans (hb.mono BEL.out.size))
      clear hb
      go_wp2_with fail
      go_ret
      exact ⟨rfl, BEL.out⟩
    simp only [if_pos hsq] at msq
    go_wp2_with fail
    refine wp_region_quiet_below (by kernel_rfl) (by kernel_rfl) ?_
    repeat (first | go_big_quiet_step ((first | (with_reducible exact (msp _ _).out) | (with_reducible exact (msq _ _).out))) | quiet_step (first | (with_reducible exact (msp _ _).out) | (with_reducible exact (msq _ _).out)))
    refine wpQuiet_nil ?_
    intro w2 hw'
    have hb := regrown_below hw'
    clear hw' msp msq
    clear LOXp LOXq LOXrow
    replace OXp := Lib.hid (OXp.out.later hb)
    replace OXq := Lib.hid (OXq.out.later hb)
    replace OXrow := Lib.hid (OXrow.out.later hb)
    replace LXp := Lib.hid (LXp.out.later hb (Nat.le_refl _))
    replace LXq := Lib.hid (LXq.out.later hb (Nat.le_refl _))
    replace BEL := Lib.hid (BEL.out.trans (hb.mono BEL.out.size))
    clear hb
    go_wp2_with fail
    go_ret
    exact ⟨rfl, BEL.out⟩
  simp only [if_pos hsp] at msp
  by_cases hsq : q.size ≤ 60
  case neg =>
    simp only [if_neg hsq] at msq
    go_wp2_with fail
    refine wp_region_quiet_below (by kernel_rfl) (by kernel_rfl) ?_
    repeat (first | go_big_quiet_step ((first | (with_reducible exact (msp _ _).out) | (with_reducible exact (msq _ _).out))) | quiet_step (first | (with_reducible exact (msp _ _).out) | (with_reducible exact (msq _ _).out)))
    refine wpQuiet_nil ?_
    intro w2 hw'
    have hb := regrown_below hw'
    clear hw' msp msq
    clear LOXp LOXq LOXrow
    replace OXp := Lib.hid (OXp.out.later hb)
    replace OXq := Lib.hid (OXq.out.later hb)
    replace OXrow := Lib.hid (OXrow.out.later hb)
    replace LXp := Lib.hid (LXp.out.later hb (Nat.le_refl _))
    replace LXq := Lib.hid (LXq.out.later hb (Nat.le_refl _))
    replace BEL := Lib.hid (BEL.out.trans (hb.mono BEL.out.size))
    clear hb
    go_wp2_with fail
    go_ret
    exact ⟨rfl, BEL.out⟩
  simp only [if_pos hsq] at msq
  go_wp2_with fail
  refine wp_region_quiet_below (by kernel_rfl) (by kernel_rfl) ?_
  repeat (first | go_big_quiet_step ((first | (with_reducible exact (msp _ _).out) | (with_reducible exact (msq _ _).out))) | quiet_step (first | (with_reducible exact (msp _ _).out) | (with_reducible exact (msq _ _).out)))
  refine wpQuiet_nil ?_
  intro w2 hw'
  have hb := regrown_below hw'
  clear hw' msp msq
  clear LOXp LOXq LOXrow
  replace OXp := Lib.hid (OXp.out.later hb)
  replace OXq := Lib.hid (OXq.out.later hb)
  replace OXrow := Lib.hid (OXrow.out.later hb)
  replace LXp := Lib.hid (LXp.out.later hb (Nat.le_refl _))
  replace LXq := Lib.hid (LXq.out.later hb (Nat.le_refl _))
  replace BEL := Lib.hid (BEL.out.trans (hb.mono BEL.out.size))
  clear hb
  have lOXp := OXp.out.cell
  have zOXp := OXp.out.lt
  have lOXq := OXq.out.cell
  have zOXq := OXq.out.lt
  have lOXrow := OXrow.out.cell
  have zOXrow := OXrow.out.lt
  go_wp2_with fail
  refine (conv_calls p (.slice op p.kids.length cp) _ LXp.out hsp).mono ?_
  rintro e w3 ⟨vp, rfl, hlp, hb⟩
  obtain ⟨ap, bp, rfl⟩ := lies_val hlp
  have MP := Lib.hid (hlp.mono (S' := fun b => b < w3.heap.size) (fun _ _ _ => rfl) (fun _ h => h.2))
  clear hlp
  clear lOXp zOXp lOXq zOXq lOXrow zOXrow
  replace OXq := Lib.hid (OXq.out.later hb)
  replace OXrow := Lib.hid (OXrow.out.later hb)
  replace LXq := Lib.hid (LXq.out.later hb (Nat.le_refl _))
  replace BEL := Lib.hid (BEL.out.trans (hb.mono BEL.out.size))
  clear hb
  clear OXp LXp
  have lOXq := OXq.out.cell
  have zOXq := OXq.out.lt
  have lOXrow := OXrow.out.cell
  have zOXrow := OXrow.out.lt
  go_wp2_with fail
  clear lOXq zOXq lOXrow zOXrow
  replace OXq := Lib.hid (OXq.out.alloc (.cells #[.int .i64 p.op, .string p.text, .int .i64 p.n, .complex .f64 p.x p.y, .slice ap p.kids.length bp] 31))
  replace OXrow := Lib.hid (OXrow.out.alloc (.cells #[.int .i64 p.op, .string p.text, .int .i64 p.n, .complex .f64 p.x p.y, .slice ap p.kids.length bp] 31))
  replace LXq := Lib.hid (LXq.out.atAlloc (.cells #[.int .i64 p.op, .string p.text, .int .i64 p.n, .complex .f64 p.x p.y, .slice ap p.kids.length bp] 31))
  replace MP := Lib.hid (MP.out.atAlloc (.cells #[.int .i64 p.op, .string p.text, .int .i64 p.n, .complex .f64 p.x p.y, .slice ap p.kids.length bp] 31))
  have OP := Lib.hid (Own.new w3 #[.int .i64 p.op, .string p.text, .int .i64 p.n, .complex .f64 p.x p.y, .slice ap p.kids.length bp] 31)
  replace BEL := Lib.hid (BEL.out.alloc BEL.out.size (.cells #[.int .i64 p.op, .string p.text, .int .i64 p.n, .complex .f64 p.x p.y, .slice ap p.kids.length bp] 31))
  generalize w3.heap.size = BP at *
  generalize w3.alloc (.cells #[.int .i64 p.op, .string p.text, .int .i64 p.n, .complex .f64 p.x p.y, .slice ap p.kids.length bp] 31) = w3' at *
  have lOXq := OXq.out.cell
  have zOXq := OXq.out.lt
  have lOXrow := OXrow.out.cell
  have zOXrow := OXrow.out.lt
  refine (conv_calls q (.slice oq q.kids.length cq) _ LXq.out hsq).mono ?_
  rintro e w4 ⟨vq, rfl, hlq, hb⟩
  obtain ⟨aq, bq, rfl⟩ := lies_val hlq
  have MQ := Lib.hid (hlq.mono (S' := fun b => b < w4.heap.size) (fun _ _ _ => rfl) (fun _ h => h.2))
  clear hlq
  clear lOXq zOXq lOXrow zOXrow
  replace OXrow := Lib.hid (OXrow.out.later hb)
  replace OP := Lib.hid (OP.out.later hb)
  replace MP := Lib.hid (MP.out.later hb (Nat.le_refl _))
  replace BEL := Lib.hid (BEL.out.trans (hb.mono BEL.out.size))
  clear hb
  clear OXq LXq
  have lOXrow := OXrow.out.cell
  have zOXrow := OXrow.out.lt
  have lOP := OP.out.cell
  have zOP := OP.out.lt
  go_wp2_with fail
  clear lOXrow zOXrow lOP zOP
  replace OXrow := Lib.hid (OXrow.out.alloc (.cells #[.int .i64 q.op, .string q.text, .int .i64 q.n, .complex .f64 q.x q.y, .slice aq q.kids.length bq] 31))
  replace OP := Lib.hid (OP.out.alloc (.cells #[.int .i64 q.op, .string q.text, .int .i64 q.n, .complex .f64 q.x q.y, .slice aq q.kids.length bq] 31))
  replace MP := Lib.hid (MP.out.atAlloc (.cells #[.int .i64 q.op, .string q.text, .int .i64 q.n, .complex .f64 q.x q.y, .slice aq q.kids.length bq] 31))
  replace MQ := Lib.hid (MQ.out.atAlloc (.cells #[.int .i64 q.op, .string q.text, .int .i64 q.n, .complex .f64 q.x q.y, .slice aq q.kids.length bq] 31))
  have OQ := Lib.hid (Own.new w4 #[.int .i64 q.op, .string q.text, .int .i64 q.n, .complex .f64 q.x q.y, .slice aq q.kids.length bq] 31)
  replace BEL := Lib.hid (BEL.out.alloc BEL.out.size (.cells #[.int .i64 q.op, .string q.text, .int .i64 q.n, .complex .f64 q.x q.y, .slice aq q.kids.length bq] 31))
  generalize w4.heap.size = BQ at *
  generalize w4.alloc (.cells #[.int .i64 q.op, .string q.text, .int .i64 q.n, .complex .f64 q.x q.y, .slice aq q.kids.length bq] 31) = w4' at *
  have lOXrow := OXrow.out.cell
  have zOXrow := OXrow.out.lt
  refine (item_calls id r c st kd n x y d _).mono ?_; rintro e w5 ⟨rfl, hb⟩
  clear lOXrow zOXrow
  replace OP := Lib.hid (OP.out.later hb)
  replace OQ := Lib.hid (OQ.out.later hb)
  replace MP := Lib.hid (MP.out.later hb (Nat.le_refl _))
  replace MQ := Lib.hid (MQ.out.later hb (Nat.le_refl _))
  replace BEL := Lib.hid (BEL.out.trans (hb.mono BEL.out.size))
  clear hb
  clear OXrow
  have lOP := OP.out.cell
  have zOP := OP.out.lt
  have lOQ := OQ.out.cell
  have zOQ := OQ.out.lt
  go_wp2_with fail
  clear lOP zOP lOQ zOQ
  replace OP := Lib.hid (OP.out.alloc (.cells #[.string id, .int .i64 r, .int .i64 c, .int .i64 st, .string kd, .int .i64 n, .complex .f64 x y, .bool d] 40))
  replace OQ := Lib.hid (OQ.out.alloc (.cells #[.string id, .int .i64 r, .int .i64 c, .int .i64 st, .string kd, .int .i64 n, .complex .f64 x y, .bool d] 40))
  replace MP := Lib.hid (MP.out.atAlloc (.cells #[.string id, .int .i64 r, .int .i64 c, .int .i64 st, .string kd, .int .i64 n, .complex .f64 x y, .bool d] 40))
  replace MQ := Lib.hid (MQ.out.atAlloc (.cells #[.string id, .int .i64 r, .int .i64 c, .int .i64 st, .string kd, .int .i64 n, .complex .f64 x y, .bool d] 40))
  have OI := Lib.hid (Own.new w5 #[.string id, .int .i64 r, .int .i64 c, .int .i64 st, .string kd, .int .i64 n, .complex .f64 x y, .bool d] 40)
  replace BEL := Lib.hid (BEL.out.alloc BEL.out.size (.cells #[.string id, .int .i64 r, .int .i64 c, .int .i64 st, .string kd, .int .i64 n, .complex .f64 x y, .bool d] 40))
  generalize w5.heap.size = BI at *
  generalize w5.alloc (.cells #[.string id, .int .i64 r, .int .i64 c, .int .i64 st, .string kd, .int .i64 n, .complex .f64 x y, .bool d] 40) = w5' at *
  generalize w5' = wz at *
  refine (contIn_calls p q (.slice ap p.kids.length bp) (.slice aq q.kids.length bq) wz MP.out MQ.out (by omega) (by omega)).mono ?_; rintro e wa ⟨rfl, hb⟩
  replace OP := Lib.hid (OP.out.later hb)
  replace OQ := Lib.hid (OQ.out.later hb)
  replace OI := Lib.hid (OI.out.later hb)
  replace MP := Lib.hid (MP.out.later hb (Nat.le_refl _))
  replace MQ := Lib.hid (MQ.out.later hb (Nat.le_refl _))
  replace BEL := Lib.hid (BEL.out.trans (hb.mono BEL.out.size))
  clear hb
  have HS := Lib.hid (fun h => Pr.in_sound (i := ⟨id, kd, n, x, y⟩) (p := p) (q := q) h)
  have HP := fun w h => Lib.hid (has_calls ⟨id, kd, n, x, y⟩ r c st d hid p (.slice ap p.kids.length bp) w h)
  have HQ := fun w h => Lib.hid (has_calls ⟨id, kd, n, x, y⟩ r c st d hid q (.slice aq q.kids.length bq) w h)
  generalize Pr.inB p q = ib at *
  generalize Pr.hasB ⟨id, kd, n, x, y⟩ p = ip at *
  generalize Pr.hasB ⟨id, kd, n, x, y⟩ q = iq at *
  cases ib
  case false =>
    go_wp2_with fail
    go_ret
    exact ⟨rfl, BEL.out⟩
  have lOP := OP.out.cell
  have zOP := OP.out.lt
  have lOI := OI.out.cell
  have zOI := OI.out.lt
  go_wp2_with fail
  refine (HP _ MP.out).out.mono ?_; rintro e wb ⟨rfl, hb⟩
  clear lOP zOP lOI zOI
  replace OP := Lib.hid (OP.out.later hb)
  replace OQ := Lib.hid (OQ.out.later hb)
  replace OI := Lib.hid (OI.out.later hb)
  replace MP := Lib.hid (MP.out.later hb (Nat.le_refl _))
  replace MQ := Lib.hid (MQ.out.later hb (Nat.le_refl _))
  replace BEL := Lib.hid (BEL.out.trans (hb.mono BEL.out.size))
  clear hb
  cases ip
  case false =>
    go_wp2_with fail
    go_ret
    exact ⟨rfl, BEL.out⟩
  obtain rfl : iq = true := HS.out (by trivial) (by trivial)
  have lOQ := OQ.out.cell
  have zOQ := OQ.out.lt
  have lOI := OI.out.cell
  have zOI := OI.out.lt
  go_wp2_with fail
  refine (HQ _ MQ.out).out.mono ?_; rintro e wc ⟨rfl, hb⟩
  clear lOQ zOQ lOI zOI
  replace BEL := Lib.hid (BEL.out.trans (hb.mono BEL.out.size))
  clear hb
  go_wp2_with fail
  go_ret
  exact ⟨rfl, BEL.out⟩

end Go.Proofs.Ytkdgbnihcfahiaa
