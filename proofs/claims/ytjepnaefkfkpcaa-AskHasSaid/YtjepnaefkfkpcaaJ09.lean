/- Joined: HasM, Lies, Begins, SizeB, Part. -/
import Derived.Test.YtjepnaefkfkpcaaJ08
import Derived.Test.YtjepnaefkfkpcaaJ06
import Derived.Test.YtjepnaefkfkpcaaJ01
import Derived.Deep.CutBlock
import Derived.Deep.DeepCutAuto
import Derived.Test.YtjepnaefkfkpcaaJ03
import Derived.Deep.RegionHeld3
import Derived.Deep.DrawnRows
/- Which items a filter has: plain mathematics. No walk. -/
namespace Go.Proofs.Ytjepnaefkfkpcaa
set_option linter.unusedVariables false
set_option linter.unusedSimpArgs false
set_option maxRecDepth 100000
structure It where
  id : ByteArray
  kd : ByteArray
  num : Int
  ax : Nat
  ay : Nat
def begB (s t : ByteArray) : Bool := t.data.toList.isPrefixOf s.data.toList
namespace Pr
mutual
def hasB (i : It) : Pr → Bool
  | node op t n x y k =>
    if op = 1 then true
    else if op = 3 then decide (i.kd.toList = t.toList)
    else if op = 4 then begB i.id t
    else if op = 5 then decide (i.num < n)
    else if op = 6 then decide (n ≤ i.num)
    else if op = 7 then nearB i.ax i.ay x y n
    else if op = 8 then hasAll i k
    else if op = 9 then hasAny i k
    else if op = 10 then hasNot i k
    else false
def hasAll (i : It) : List Pr → Bool | [] => true | a :: l => hasB i a && hasAll i l
def hasAny (i : It) : List Pr → Bool | [] => false | a :: l => hasB i a || hasAny i l
def hasNot (i : It) : List Pr → Bool | [] => false | a :: _ => !hasB i a
end
/-! ### What is the same has the same items -/
/-! ### Made plain it has the same -/
end Pr
end Go.Proofs.Ytjepnaefkfkpcaa
/- Filters in a world: that a tree lies there. No walk. -/
namespace Go.Proofs.Ytjepnaefkfkpcaa
set_option linter.unusedVariables false
set_option linter.unusedSimpArgs false
set_option maxRecDepth 100000
open Go.RowKit
def pc (p : Pr) (v : Value) : List Value := [.int .i64 p.op, .string p.text, .int .i64 p.n, .complex .f64 p.x p.y, v]
def tc (p : Pr) (v : Value) : List Value := [.int .i64 p.op, .string p.text, .int .i64 p.n, .float .f64 p.x, .float .f64 p.y, v]
inductive Lies (sz : Nat) (c : Pr → Value → List Value) (S : Nat → Prop) (w : World) : Pr → Value → Prop where
  | mk (op : Int) (t : ByteArray) (n : Int) (x y : Nat) (kids : List Pr) (oa : Option Addr) (cap b o : Nat) (V : Nat → Value) (ht : t.size ≤ maxLen) (hl : kids.length ≤ cap) (hc : cap ≤ maxLen)
      (hn : 0 < kids.length → oa = some ⟨b, o, none⟩ ∧ S b)
      (hcell : ∀ i p, kids[i]? = some p → ∀ j u, (c p (V i))[j]? = some u → w.cell? ⟨b, o + i * sz + j, none⟩ = some u)
      (hrec : ∀ i p, kids[i]? = some p → Lies sz c S w p (V i)) : Lies sz c S w (.node op t n x y kids) (.slice oa kids.length cap)
theorem some_pos {l : List Pr} {i : Nat} {p : Pr} (h : l[i]? = some p) : i < l.length := (List.getElem?_eq_some_iff.1 h).1
theorem Lies.mono {sz : Nat} {c : Pr → Value → List Value} {S S' : Nat → Prop} {w w' : World} {p : Pr} {v : Value} (h : Lies sz c S w p v)
    (hw : ∀ b o, S b → w'.cell? ⟨b, o, none⟩ = w.cell? ⟨b, o, none⟩) (hS : ∀ b, S b → S' b) : Lies sz c S' w' p v := by
  induction h with
  | mk op t n x y kids oa cap b o V ht hl hc hn hcell hrec ih =>
    refine .mk op t n x y kids oa cap b o V ht hl hc (fun h => ⟨(hn h).1, hS _ (hn h).2⟩) (fun i p hp j u hu => ?_) fun i p hp => ih i p hp
    rw [hw _ _ (hn (by have := some_pos hp; omega)).2]
    exact hcell i p hp j u hu
abbrev LP (w : World) (p : Pr) (v : Value) : Prop := Lies 5 pc (fun b => b < w.heap.size) w p v
abbrev LT (w : World) (p : Pr) (v : Value) : Prop := Lies 6 tc (fun b => b < w.heap.size) w p v
theorem Lies.later {sz : Nat} {c : Pr → Value → List Value} {w w' : World} {p : Pr} {v : Value} {B : Nat} (h : Lies sz c (fun b => b < w.heap.size) w p v) (hb : Below B w w') (hB : w.heap.size ≤ B) : Lies sz c (fun b => b < w'.heap.size) w' p v :=
  h.mono (fun b o hS => hb.cell (p := ⟨b, o, none⟩) (Nat.lt_of_lt_of_le hS hB)) fun _ hS => Nat.lt_of_lt_of_le hS hb.size
theorem Lies.atDrew {sz : Nat} {c : Pr → Value → List Value} {w : World} {p : Pr} {v : Value} (h : Lies sz c (fun b => b < w.heap.size) w p v) : Lies sz c (fun b => b < w.drew.heap.size) w.drew p v := h.later (Below.refl _ _).drew (Nat.le_refl _)
theorem Lies.atAlloc {sz : Nat} {c : Pr → Value → List Value} {w : World} {p : Pr} {v : Value} (h : Lies sz c (fun b => b < w.heap.size) w p v) (ob : Obj) : Lies sz c (fun b => b < (w.alloc ob).heap.size) (w.alloc ob) p v :=
  h.later ((Below.refl _ _).alloc (Nat.le_refl _) _) (Nat.le_refl _)
theorem lies_slice {sz : Nat} {c : Pr → Value → List Value} {S : Nat → Prop} {w : World} {p : Pr} {v : Value} (h : Lies sz c S w p v) :
    ∃ (oa : Option Addr) (cap b o : Nat) (V : Nat → Value), v = .slice oa p.kids.length cap ∧ p.text.size ≤ maxLen ∧ p.kids.length ≤ cap ∧ cap ≤ maxLen ∧ (0 < p.kids.length → oa = some ⟨b, o, none⟩ ∧ S b) ∧
      (∀ i q, p.kids[i]? = some q → ∀ j u, (c q (V i))[j]? = some u → w.cell? ⟨b, o + i * sz + j, none⟩ = some u) ∧ (∀ i q, p.kids[i]? = some q → Lies sz c S w q (V i)) := by
  cases h with
  | mk op t n x y kids oa cap b o V ht hl hc hn hcell hrec => exact ⟨oa, cap, b, o, V, rfl, ht, hl, hc, hn, hcell, hrec⟩
theorem lies_nil {sz : Nat} {c : Pr → Value → List Value} {S : Nat → Prop} {w : World} {op : Int} {t : ByteArray} {n : Int} {x y : Nat} (ht : t.size ≤ maxLen) : Lies sz c S w (.node op t n x y []) (.slice none 0 0) :=
  .mk op t n x y [] none 0 0 0 (fun _ => .nilFunc) ht (Nat.le_refl _) (Nat.zero_le _) (fun h => absurd h (Nat.lt_irrefl _)) (fun i p h => by simp at h) (fun i p h => by simp at h)
theorem lies_one {sz : Nat} {c : Pr → Value → List Value} {S : Nat → Prop} {w : World} {p : Pr} {v : Value} (h : Lies sz c S w p v) : v.oneCell' = true := by
  obtain ⟨_, _, _, _, _, rfl, _⟩ := lies_slice h; rfl
theorem pc_one {q : Pr} {v : Value} (h : v.oneCell' = true) : ∀ u ∈ pc q v, u.oneCell' = true := by
  intro u hu
  simp only [pc, List.mem_cons, List.not_mem_nil, or_false] at hu
  rcases hu with rfl | rfl | rfl | rfl | rfl
  · rfl
  · rfl
  · rfl
  · rfl
  · exact h
theorem pc_cells {w : World} {q : Pr} {v : Value} {b o : Nat} (h : ∀ j u, (pc q v)[j]? = some u → w.cell? ⟨b, o + j, none⟩ = some u) :
    w.cell? ⟨b, o, none⟩ = some (.int .i64 q.op) ∧ w.cell? ⟨b, o + 1, none⟩ = some (.string q.text) ∧ w.cell? ⟨b, o + 2, none⟩ = some (.int .i64 q.n) ∧ w.cell? ⟨b, o + 3, none⟩ = some (.complex .f64 q.x q.y) ∧ w.cell? ⟨b, o + 4, none⟩ = some v :=
  ⟨h 0 _ rfl, h 1 _ rfl, h 2 _ rfl, h 3 _ rfl, h 4 _ rfl⟩
theorem tc_cells {w : World} {q : Pr} {v : Value} {b o : Nat} (h : ∀ j u, (tc q v)[j]? = some u → w.cell? ⟨b, o + j, none⟩ = some u) :
    w.cell? ⟨b, o, none⟩ = some (.int .i64 q.op) ∧ w.cell? ⟨b, o + 1, none⟩ = some (.string q.text) ∧ w.cell? ⟨b, o + 2, none⟩ = some (.int .i64 q.n) ∧ w.cell? ⟨b, o + 3, none⟩ = some (.float .f64 q.x) ∧ w.cell? ⟨b, o + 4, none⟩ = some (.float .f64 q.y) ∧ w.cell? ⟨b, o + 5, none⟩ = some v :=
  ⟨h 0 _ rfl, h 1 _ rfl, h 2 _ rfl, h 3 _ rfl, h 4 _ rfl, h 5 _ rfl⟩
end Go.Proofs.Ytjepnaefkfkpcaa
/- Whether a text begins with another one: the document's answer, walked. -/
namespace Go.Proofs.Ytjepnaefkfkpcaa
set_option linter.unusedVariables false
set_option linter.unusedSimpArgs false
set_option maxRecDepth 100000
open Go.RowKit
/-! ### begins -/
theorem beg_short {s t : ByteArray} {k : Nat} (h1 : s.size ≤ k) (h2 : k < t.size) : begB s t = false := by
  unfold begB
  cases h : t.data.toList.isPrefixOf s.data.toList with
  | false => rfl
  | true =>
    have h3 := (List.isPrefixOf_iff_prefix.1 h).length_le
    have e1 : t.data.toList.length = t.size := by simp
    have e2 : s.data.toList.length = s.size := by simp
    omega
theorem beg_step {s t : ByteArray} {k : Nat} (hs : k < s.size) (ht : k < t.size) (h : s.data.toList.take k = t.data.toList.take k) (e : s[k] = t[k]) : s.data.toList.take (k + 1) = t.data.toList.take (k + 1) := by
  rw [take_snoc s k hs, take_snoc t k ht, h, e]
theorem beg_diff {s t : ByteArray} {k : Nat} (hs : k < s.size) (ht : k < t.size) (e : s[k] ≠ t[k]) : begB s t = false := by
  unfold begB
  cases h : t.data.toList.isPrefixOf s.data.toList with
  | false => rfl
  | true =>
    obtain ⟨r, hr⟩ := List.isPrefixOf_iff_prefix.1 h
    have e1 : s.data.toList[k]? = t.data.toList[k]? := by
      rw [← hr, List.getElem?_append_left (by simpa using ht)]
    have e2 : s.data.toList[k]? = some s[k] := by
      rw [List.getElem?_eq_getElem (by simpa using hs)]; rfl
    have e3 : t.data.toList[k]? = some t[k] := by
      rw [List.getElem?_eq_getElem (by simpa using ht)]; rfl
    rw [e2, e3] at e1
    exact absurd (Option.some.inj e1) e
theorem beg_all {s t : ByteArray} (h : s.data.toList.take t.size = t.data.toList.take t.size) : begB s t = true := by
  unfold begB
  rw [List.isPrefixOf_iff_prefix]
  have e : t.data.toList.take t.size = t.data.toList := List.take_of_length_le (by simp)
  rw [e] at h
  exact ⟨s.data.toList.drop t.size, by rw [← h]; exact List.take_append_drop _ _⟩
set_option maxHeartbeats 1000000 in
theorem begins_calls (s t : ByteArray) (w : World) (hs : s.size ≤ maxLen) (ht : t.size ≤ maxLen) :
    Calls Try.prog 55 #[.string s, .string t] w fun e w' => e = .returned (.bool (begB s t)) ∧ Below w.heap.size w w' := by
  unfold maxLen at hs ht
  go_enter Try.func55, Try.ntmps55
  go_wp2_with fail
  go_loopw [5] (fun i wr => ∃ k : Nat, k ≤ t.size ∧ i = .int .i64 k ∧ Hid (s.data.toList.take k = t.data.toList.take k) ∧ Below w.heap.size w wr) (fun i _ => t.size - (intOf i).toNat)
  case atStart => exact ⟨0, Nat.zero_le _, rfl, by simp [Hid], Below.refl _ _⟩
  case round =>
    obtain ⟨k, hk, rfl, HS, hb⟩ := hrel
    have HB := Lib.hid hb
    clear hb
    by_cases hlt : k < t.size
    · by_cases hls : k < s.size
      · have d1 : decide ((s.size : Int) ≤ (k : Int)) = false := by simp; omega
        have k0 : (0 : Int) ≤ (k : Int) := by omega
        have k1 : (k : Int) < (s.size : Int) := by omega
        have k2 : (k : Int) < (t.size : Int) := by omega
        by_cases e : s[k] = t[k]
        · have HN := Lib.hid (beg_step hls hlt HS.out e)
          have d2 : ((s[k].toNat : Int) != (t[k].toNat : Int)) = false := by rw [e]; simp
          clear e
          go_wp2_with fail
          refine wp_region_quiet_below (by kernel_rfl) (by kernel_rfl) ?_
          repeat (first | go_big_quiet_step (fail) | quiet_step (fail))
          refine wpQuiet_nil ?_
          intro w7 hw'
          have hb' := Lib.hid (regrown_below hw')
          clear hw'
          go_wp2_with fail
          go_roundw
          case rel => exact ⟨k + 1, by omega, by go_num, HN.out, HB.out.trans (hb'.out.mono HB.out.size)⟩
          case measure => simp [intOf]; omega
        · have HZ := Lib.hid (beg_diff hls hlt e)
          have d2 : ((s[k].toNat : Int) != (t[k].toNat : Int)) = true := by
            rw [bne_iff_ne]; intro h; exact e (UInt8.toNat_inj.1 (by omega))
          clear e
          go_wp2_with fail
          refine wp_region_quiet_below (by kernel_rfl) (by kernel_rfl) ?_
          repeat (first | go_big_quiet_step (fail) | quiet_step (fail))
          refine wpQuiet_nil ?_
          intro w7 hw'
          have hb' := Lib.hid (regrown_below hw')
          clear hw'
          go_wp2_with fail
          go_ret
          exact ⟨ret_bool HZ.out.symm, HB.out.trans (hb'.out.mono HB.out.size)⟩
      · have d1 : decide ((s.size : Int) ≤ (k : Int)) = true := by simp; omega
        have HZ := Lib.hid (beg_short (s := s) (t := t) (k := k) (by omega) hlt)
        go_wp2_with fail
        refine wp_region_quiet_below (by kernel_rfl) (by kernel_rfl) ?_
        repeat (first | go_big_quiet_step (fail) | quiet_step (fail))
        refine wpQuiet_nil ?_
        intro w7 hw'
        have hb' := Lib.hid (regrown_below hw')
        clear hw'
        go_wp2_with fail
        go_ret
        exact ⟨ret_bool HZ.out.symm, HB.out.trans (hb'.out.mono HB.out.size)⟩
    · have e : k = t.size := by omega
      subst e
      have HZ := Lib.hid (beg_all HS.out)
      go_wp2_with fail
      go_ret
      exact ⟨ret_bool HZ.out.symm, HB.out⟩
end Go.Proofs.Ytjepnaefkfkpcaa
/- The loops' word of sizes and depths. No walk. -/
namespace Go.Proofs.Ytjepnaefkfkpcaa
set_option linter.unusedVariables false
set_option linter.unusedSimpArgs false
set_option maxRecDepth 100000
open Go.RowKit
def SumRel (l : List Pr) (len : Nat) (f : List Pr → Nat) (w0 : World) (n i : Value) (wr : World) : Prop :=
  ∃ (k s : Nat), k ≤ len ∧ i = .int .i64 k ∧ n = .int .i64 s ∧ s ≤ 1000 ∧ Hid (s = f (l.take k)) ∧ Below w0.heap.size w0 wr
theorem lies_val {sz : Nat} {c : Pr → Value → List Value} {S : Nat → Prop} {w : World} {p : Pr} {v : Value} (h : Lies sz c S w p v) : ∃ oa cap, v = .slice oa p.kids.length cap := by
  obtain ⟨oa, cap, _, _, _, rfl, _⟩ := lies_slice h; exact ⟨oa, cap, rfl⟩
end Go.Proofs.Ytjepnaefkfkpcaa
/- Whether a filter's own part may be: the walks over the code's checks. -/
namespace Go.Proofs.Ytjepnaefkfkpcaa
set_option linter.unusedVariables false
set_option linter.unusedSimpArgs false
set_option maxRecDepth 100000
open Go.RowKit
def inW (n a b : Int) : Bool := decide (a ≤ n) && decide (n ≤ b)
theorem len_one (k : Nat) : ((k : Int) == 1) = decide (k = 1) := by
  rw [Bool.eq_iff_iff]; simp; omega
attribute [local go_sem ↓] Go.wp_at_zero Go.wp_at_succ
end Go.Proofs.Ytjepnaefkfkpcaa
