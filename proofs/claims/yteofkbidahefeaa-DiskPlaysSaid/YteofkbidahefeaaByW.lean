/- Bytes as they lie in a world; bytes that a call owns; texts of bytes. No walk. -/
import Derived.Test.YteofkbidahefeaaKit
import Derived.Test.YteofkbidahefeaaOwn
import Derived.Lib.AppendStr
import Derived.Lib.AppendZeros
import Derived.Laws.BytesArg
import Derived.Laws.IdiomStrings
import Derived.Lib.SlBytesConst
import Derived.Test.YteofkbidahefeaaRegM
namespace Go.Proofs.Yteofkbidahefeaa
set_option linter.unusedVariables false
set_option linter.unusedSimpArgs false
set_option maxRecDepth 100000
open Go.RowKit

theorem posB {α : Type} {l : List α} {k : Nat} {a : α} (h : l[k]? = some a) : k < l.length := (List.getElem?_eq_some_iff.1 h).1
theorem takeB {α : Type} {l : List α} {k : Nat} {i : α} (h : l[k]? = some i) : l.take (k + 1) = l.take k ++ [i] := by
  obtain ⟨hk, e⟩ := List.getElem?_eq_some_iff.1 h
  rw [List.take_succ_eq_append_getElem hk, e]
theorem getB {α : Type} {l : List α} {k : Nat} (h : k < l.length) : ∃ x, l[k]? = some x := ⟨_, List.getElem?_eq_getElem h⟩

/-- Bytes that lie there. -/
structure ByAt (w : World) (l : List Nat) (oa : Option Addr) (cap b o : Nat) : Prop where
  len : l.length ≤ cap
  max : cap ≤ maxLen
  at0 : 0 < l.length → oa = some ⟨b, o, none⟩ ∧ b < w.heap.size
  cell : ∀ (k n : Nat), l[k]? = some n → w.cell? ⟨b, o + k, none⟩ = some (.int .u8 (n : Int))
  ok : ∀ n ∈ l, n < 256
def ByW (w : World) (l : List Nat) (v : Value) : Prop := ∃ oa cap b o, v = .slice oa l.length cap ∧ ByAt w l oa cap b o
theorem ByAt.later {w w' : World} {l : List Nat} {oa : Option Addr} {cap b o B : Nat} (h : ByAt w l oa cap b o) (hb : Below B w w') (hB : w.heap.size ≤ B) : ByAt w' l oa cap b o := by
  refine ⟨h.len, h.max, fun h0 => ⟨(h.at0 h0).1, Nat.lt_of_lt_of_le (h.at0 h0).2 hb.size⟩, fun k s hk => ?_, h.ok⟩
  have hlt : b < w.heap.size := (h.at0 (by have := posB hk; omega)).2
  exact (hb.cell (p := ⟨b, o + k, none⟩) (by show b < B; omega)).trans (h.cell k s hk)
theorem ByW.later {w w' : World} {l : List Nat} {v : Value} (h : ByW w l v) (hb : Below w.heap.size w w') : ByW w' l v := by
  obtain ⟨oa, cap, b, o, e, h⟩ := h
  exact ⟨oa, cap, b, o, e, h.later hb (Nat.le_refl _)⟩
theorem ByW.drew {w : World} {l : List Nat} {v : Value} (h : ByW w l v) : ByW w.drew l v := h.later (Below.refl _ _).drew
theorem ByAt.reads {w w' : World} {l : List Nat} {oa : Option Addr} {cap b o : Nat} (h : ByAt w l oa cap b o) (hb : Reads w w') : ByAt w' l oa cap b o := by
  refine ⟨h.len, h.max, fun h0 => ⟨(h.at0 h0).1, Nat.lt_of_lt_of_le (h.at0 h0).2 hb.size⟩, fun k s hk => ?_, h.ok⟩
  have hlt : b < w.heap.size := (h.at0 (by have := posB hk; omega)).2
  exact (hb.cell ⟨b, o + k, none⟩ hlt).trans (h.cell k s hk)
theorem ByW.reads {w w' : World} {l : List Nat} {v : Value} (h : ByW w l v) (hb : Reads w w') : ByW w' l v := by
  obtain ⟨oa, cap, b, o, e, h⟩ := h
  exact ⟨oa, cap, b, o, e, h.reads hb⟩
theorem reads_mark (w : World) (C : Array Value) (t : TypeId) (fr : Nat × Nat) : Reads (w.alloc (.cells C t)) (w.alloc (.cells C t fr)) :=
  ⟨by simp, fun a _ => by
    simp only [World.cell?, World.alloc, Array.getElem?_push]
    by_cases h : a.block = w.heap.size
    · simp only [h, if_true]
    · simp only [h, if_false]⟩
theorem ByW.val {w : World} {l : List Nat} {v : Value} (h : ByW w l v) : ∃ oa cap, v = .slice oa l.length cap ∧ l.length ≤ cap ∧ cap ≤ maxLen := by
  obtain ⟨oa, cap, _, _, e, h⟩ := h
  exact ⟨oa, cap, e, h.len, h.max⟩
theorem ByW.ok {w : World} {l : List Nat} {v : Value} (h : ByW w l v) : ∀ n ∈ l, n < 256 := by
  obtain ⟨_, _, _, _, _, h⟩ := h
  exact h.ok
theorem ByW.nil (w : World) : ByW w [] (.slice none 0 0) := ⟨none, 0, 0, 0, rfl, Nat.le_refl _, by decide, fun h => absurd h (by simp), fun k n h => by simp at h, fun n h => by simp at h⟩
/-- None at all, of whatever value. -/
theorem ByW.none (w : World) (oa : Option Addr) (cap : Nat) (h : cap ≤ maxLen) : ByW w [] (.slice oa 0 cap) := ⟨oa, cap, 0, 0, rfl, Nat.zero_le _, h, fun h => absurd h (by simp), fun k n h => by simp at h, fun n h => by simp at h⟩

/-- Where a part of a slice lies. -/
def slA (oa : Option Addr) (l m : Nat) : Option Addr := if m = l then oa else oa.map (·.add l)
theorem sizeOf_byte (w : World) : (sizeOf (Try.prog.elem 26)).run Try.prog w = .ok 1 w := by
  have e : Try.prog.elem 26 = 5 := by kernel_rfl
  rw [e]; exact Try.sizeOf5 w
theorem run_slice_lhB (w : World) (oa : Option Addr) (n cap a b : Nat) (h1 : a ≤ b) (h2 : b ≤ cap) :
    (Instr.slice 26 (.slice oa n cap) (some (.int .i64 a)) (some (.int .i64 b)) none).run Try.prog w = .ok (.slice (slA oa a cap) (b - a) (cap - a)) w := by
  rw [run_slice_lh w 26 oa n cap (by kernel_rfl) .i64 .i64 a b (by omega) (by omega) (by omega), sizeOf_byte]
  simp [Result.andThen, sliced, slA]
theorem run_slice_hB (w : World) (oa : Option Addr) (n cap b : Nat) (h2 : b ≤ cap) :
    (Instr.slice 26 (.slice oa n cap) none (some (.int .i64 b)) none).run Try.prog w = .ok (.slice (slA oa 0 cap) b cap) w := by
  rw [run_slice_h w 26 oa n cap (by kernel_rfl) .i64 b (by omega) (by omega), sizeOf_byte]
  simp [Result.andThen, sliced, slA]
theorem run_slice_lB (w : World) (oa : Option Addr) (n cap a : Nat) (h2 : a ≤ n) :
    (Instr.slice 26 (.slice oa n cap) (some (.int .i64 a)) none none).run Try.prog w = .ok (.slice (slA oa a cap) (n - a) (cap - a)) w := by
  rw [run_slice_l w 26 oa n cap (by kernel_rfl) .i64 a (by omega) (by omega), sizeOf_byte]
  simp [Result.andThen, sliced, slA]
theorem run_slice_lhmB (w : World) (oa : Option Addr) (n cap a b c : Nat) (h1 : a ≤ b) (h2 : b ≤ c) (h3 : c ≤ cap) :
    (Instr.slice 26 (.slice oa n cap) (some (.int .i64 a)) (some (.int .i64 b)) (some (.int .i64 c))).run Try.prog w = .ok (.slice (slA oa a c) (b - a) (c - a)) w := by
  rw [run_slice_lhm w 26 oa n cap (by kernel_rfl) .i64 .i64 .i64 a b c (by omega) (by omega) (by omega) (by omega), sizeOf_byte]
  simp [Result.andThen, sliced, slA]
theorem run_slice_hmB (w : World) (oa : Option Addr) (n cap b c : Nat) (h2 : b ≤ c) (h3 : c ≤ cap) :
    (Instr.slice 26 (.slice oa n cap) none (some (.int .i64 b)) (some (.int .i64 c))).run Try.prog w = .ok (.slice (slA oa 0 c) b c) w := by
  rw [run_slice_hm w 26 oa n cap (by kernel_rfl) .i64 .i64 b c (by omega) (by omega) (by omega), sizeOf_byte]
  simp [Result.andThen, sliced, slA]

/-- .. told by whole numbers, for the walk. -/
theorem run_slice_lhI (w : World) (oa : Option Addr) (n cap : Nat) (i j : Int) (h0 : 0 ≤ i) (h1 : i ≤ j) (h2 : j ≤ cap) :
    (Instr.slice 26 (.slice oa n cap) (some (.int .i64 i)) (some (.int .i64 j)) none).run Try.prog w = .ok (.slice (slA oa i.toNat cap) (j - i).toNat (cap - i.toNat)) w := by
  have := run_slice_lhB w oa n cap i.toNat j.toNat (by omega) (by omega)
  rw [show ((i.toNat : Nat) : Int) = i by omega, show ((j.toNat : Nat) : Int) = j by omega, show j.toNat - i.toNat = (j - i).toNat by omega] at this
  exact this
theorem run_slice_hI (w : World) (oa : Option Addr) (n cap : Nat) (j : Int) (h0 : 0 ≤ j) (h2 : j ≤ cap) :
    (Instr.slice 26 (.slice oa n cap) none (some (.int .i64 j)) none).run Try.prog w = .ok (.slice (slA oa 0 cap) j.toNat cap) w := by
  have := run_slice_hB w oa n cap j.toNat (by omega)
  rw [show ((j.toNat : Nat) : Int) = j by omega] at this
  exact this
theorem run_slice_lI (w : World) (oa : Option Addr) (n cap : Nat) (i : Int) (h0 : 0 ≤ i) (h2 : i ≤ n) :
    (Instr.slice 26 (.slice oa n cap) (some (.int .i64 i)) none none).run Try.prog w = .ok (.slice (slA oa i.toNat cap) (n - i.toNat) (cap - i.toNat)) w := by
  have := run_slice_lB w oa n cap i.toNat (by omega)
  rw [show ((i.toNat : Nat) : Int) = i by omega] at this
  exact this

theorem addB (b o k : Nat) : (⟨b, o, none⟩ : Addr).add k = ⟨b, o + k, none⟩ := by unfold Addr.add; split <;> simp_all
/-- A part of what lies there lies there. -/
theorem ByW.part {w : World} {l : List Nat} {oa : Option Addr} {n cap : Nat} (h : ByW w l (.slice oa n cap)) (a b c : Nat) (h1 : a ≤ b) (h2 : b ≤ l.length) (h3 : b ≤ c) (h4 : c ≤ cap) : ByW w ((l.take b).drop a) (.slice (slA oa a c) (b - a) (c - a)) := by
  obtain ⟨oa', cap', bb, o, e, h⟩ := h
  cases e
  have hm := h.max
  have hl : ((l.take b).drop a).length = b - a := by simp; omega
  refine ⟨_, c - a, bb, o + a, by rw [hl], by rw [hl]; omega, by omega, fun h0 => ?_, fun k n hk => ?_, fun n hn => h.ok n (List.mem_of_mem_take (List.mem_of_mem_drop hn))⟩
  · rw [hl] at h0
    obtain ⟨rfl, hb⟩ := h.at0 (by omega)
    refine ⟨?_, hb⟩
    unfold slA
    rw [if_neg (by omega), Option.map_some, addB]
  · have hk' := posB hk
    rw [hl] at hk'
    rw [List.getElem?_drop, List.getElem?_take_of_lt (by omega)] at hk
    have := h.cell (a + k) n hk
    rwa [Nat.add_assoc]
theorem ByW.from {w : World} {l : List Nat} {oa : Option Addr} {n cap : Nat} (h : ByW w l (.slice oa n cap)) (a : Nat) (h1 : a ≤ l.length) : ByW w (l.drop a) (.slice (slA oa a cap) (n - a) (cap - a)) := by
  obtain ⟨oa', cap', e, h3, h4⟩ := h.val
  cases e
  have := h.part a l.length cap h1 (Nat.le_refl _) h3 (Nat.le_refl _)
  rwa [List.take_length] at this
theorem ByW.upto {w : World} {l : List Nat} {oa : Option Addr} {n cap : Nat} (h : ByW w l (.slice oa n cap)) (b : Nat) (h1 : b ≤ l.length) : ByW w (l.take b) (.slice (slA oa 0 cap) b cap) := by
  obtain ⟨oa', cap', e, h3, h4⟩ := h.val
  cases e
  exact h.part 0 b cap (Nat.zero_le _) h1 (by omega) (Nat.le_refl _)

/-! ### Texts of bytes -/
def strN (l : List Nat) : ByteArray := ⟨(l.map UInt8.ofNat).toArray⟩
def nl (s : ByteArray) : List Nat := s.toList.map UInt8.toNat
theorem nl_len (s : ByteArray) : (nl s).length = s.size := by simp [nl, toList_size]
theorem strN_size (l : List Nat) : (strN l).size = l.length := by simp [strN, ByteArray.size]
theorem strN_nl (s : ByteArray) : strN (nl s) = s := by
  unfold strN nl
  rw [ByteArray.toList_eq, List.map_map]
  have : (UInt8.ofNat ∘ UInt8.toNat) = id := by funext x; simp
  rw [this, List.map_id]
theorem nl_strN {l : List Nat} (h : ∀ n ∈ l, n < 256) : nl (strN l) = l := by
  unfold strN nl
  rw [ByteArray.toList_eq, List.map_map]
  conv => rhs; rw [← List.map_id l]
  refine List.map_congr_left fun n hn => ?_
  have := h n hn
  simp; omega
theorem nl_lt (s : ByteArray) : ∀ n ∈ nl s, n < 256 := by
  intro n hn
  obtain ⟨b, _, rfl⟩ := List.mem_map.1 hn
  exact b.toNat_lt
theorem strN_inj {l m : List Nat} (hl : ∀ n ∈ l, n < 256) (hm : ∀ n ∈ m, n < 256) (h : strN l = strN m) : l = m := by
  rw [← nl_strN hl, h, nl_strN hm]
theorem tlB {s t : ByteArray} : (s.toList == t.toList) = true ↔ s = t := by
  rw [beq_iff_eq, ByteArray.toList_eq, ByteArray.toList_eq]
  constructor
  · intro h
    cases s; cases t
    simpa using h
  · rintro rfl; rfl
theorem tlB_ne {s t : ByteArray} : (s.toList == t.toList) = false ↔ s ≠ t := by
  rw [← Bool.not_eq_true, tlB]
theorem run_convert_by {w : World} {l : List Nat} {v : Value} (h : ByW w l v) : (convert 26 9 v).run Try.prog w = .ok (.string (strN l)) w := by
  obtain ⟨oa, cap, b, o, rfl, h⟩ := h
  by_cases h0 : l.length = 0
  · have e : l = [] := List.length_eq_zero_iff.1 h0
    subst e
    cases oa with
    | none => exact run_convert_bytes_nil w _ _ Try.underlying26 Try.underlying5 _ _ _ Try.underlying9
    | some a =>
      rw [run_convert_bytes_string w _ _ _ _ _ _ Try.underlying26 Try.underlying5 Try.underlying9]
      rw [run_bytesToString w a _ cap [] (by simp [loadCells, loadCellsFrom])]
      rfl
  · obtain ⟨rfl, _⟩ := h.at0 (by omega)
    have := run_convert_bytes_arg w _ _ Try.underlying26 Try.underlying5 b o l.length cap (l.map (fun n : Nat => (n : Int))) (by simp) (fun i hi => by
      obtain ⟨x, hx⟩ := getB hi
      rw [h.cell i x hx]
      simp [List.getD, hx]) _ Try.underlying9
    rw [this]
    simp only [strOfNums, strN, List.map_map]
    congr 4

/-! ### Bytes that the call owns -/
def byC (l : List Nat) : List Value := l.map (fun n : Nat => Value.int .u8 (n : Int))
def OwnB (w : World) (base : Nat) (l : List Nat) (v : Value) : Prop := w.ownsRow base 5 1 v l.length (byC l)
theorem OwnB.nil (w : World) (base : Nat) : OwnB w base [] (.slice none 0 0) := World.ownsRow_nil _ _ _ _
theorem OwnB.later {w w' : World} {base : Nat} {l : List Nat} {v : Value} (h : OwnB w base l v) (hb : Below w.heap.size w w') : OwnB w' base l v := ownsRow_below h hb
theorem OwnB.alloc {w : World} {base : Nat} {l : List Nat} {v : Value} (h : OwnB w base l v) (o : Obj) : OwnB (w.alloc o) base l v := h.later ((Below.refl _ _).alloc (Nat.le_refl _) _)
theorem OwnB.mono {w : World} {base base' : Nat} {l : List Nat} {v : Value} (h : OwnB w base l v) (hb : base' ≤ base) : OwnB w base' l v := by
  obtain ⟨h1, h2⟩ := h
  refine ⟨h1, ?_⟩
  rcases h2 with h2 | ⟨g, cap, cur, hv, hg, r⟩
  · exact .inl h2
  · exact .inr ⟨g, cap, cur, hv, Nat.le_trans hb hg, r⟩
theorem OwnB.val {w : World} {base : Nat} {l : List Nat} {v : Value} (h : OwnB w base l v) : ∃ oa cap, v = .slice oa l.length cap ∧ l.length ≤ cap ∧ cap ≤ maxLen := by
  obtain ⟨oa, cap, g, e, h1, h2, _⟩ := row_slice h
  exact ⟨oa, cap, e, h1, h2⟩
theorem OwnB.by {w : World} {base : Nat} {l : List Nat} {v : Value} (h : OwnB w base l v) (hok : ∀ n ∈ l, n < 256) : ByW w l v := by
  obtain ⟨oa, cap, g, e, h1, h2, hg⟩ := row_slice h
  subst e
  refine ⟨oa, cap, g, 0, rfl, h1, h2, fun h0 => ⟨(hg h0).1, (hg h0).2.2⟩, fun k s hk => ?_, hok⟩
  have hlt := posB hk
  obtain ⟨rfl, _⟩ := hg (by omega)
  unfold OwnB at h
  rw [Nat.zero_add, h.cellAt k (by omega)]
  simp [byC, hk]
theorem oneB (l : List Nat) : ∀ u ∈ byC l, u.oneCell' = true := by
  intro u hu
  obtain ⟨n, _, rfl⟩ := List.mem_map.1 hu
  rfl
theorem info_byte : (Try.prog.info? 5).map (fun i => (i.zero, i.size, i.bytes)) = some (some (.int .u8 0), 1, 1) := by kernel_rfl
theorem below_pushB {w0 w w' : World} {B base : Nat} {l : List Nat} {v : Value} (h : OwnB w base l v) (hb : Below B w0 w) (hB : B ≤ base) (hg : w.grownBy w' v.ownBlock) (hsz : B ≤ w.heap.size) : Below B w0 w' :=
  hb.grown hg hsz fun k hk => by have := (World.ownsRow.lt h k hk).1; omega
/-- Bytes of a block are appended. -/
theorem run_append_by (ty : TypeId) {w : World} {base : Nat} {v sv : Value} {l m : List Nat} (hown : OwnB w base l v) (hM : ByW w m sv) (hn : l.length + m.length ≤ 140737488355328) (hbase : base ≤ w.heap.size) :
    ∃ v' w', (Builtin.append_ #[26, 26] ty #[v, sv]).run Try.prog w = .ok v' w' ∧ OwnB w' base (l ++ m) v' ∧ w.grownBy w' v.ownBlock := by
  obtain ⟨oa, cap, b, o, rfl, h⟩ := hM
  obtain ⟨j0, hj, hy0, hy1, hy2⟩ := info_parts info_byte
  by_cases h0 : m.length = 0
  · have e : m = [] := List.length_eq_zero_iff.1 h0
    subst e
    obtain ⟨ov, cv, e, h1, _⟩ := hown.val
    subst e
    refine ⟨.slice ov l.length cv, w, ?_, by simpa using hown, ⟨rfl, rfl, rfl, Nat.le_refl _, fun _ _ _ => rfl⟩⟩
    have hf : (Builtin.firstCells j0.size 0 (.slice oa 0 cap)).run Try.prog w = .ok #[] w := by
      cases oa with
      | none => exact run_firstCells_none w _ _ _ _
      | some a => exact run_firstCells_some w j0.size 0 a 0 cap [] (by simp) (fun j v h => by simp at h)
    have hs : ∀ a : Addr, (storeCells a []).run Try.prog w = .ok () w := fun a => by simp [storeCells]
    cases ov with
    | none => simp [Builtin.append_, run_underlying Try.underlying26, sizeOf, typeInfo, hj, Builtin.lenOf, h1, hf, Result.andThen]
    | some a => simp [Builtin.append_, run_underlying Try.underlying26, sizeOf, typeInfo, hj, Builtin.lenOf, h1, hf, hs, Result.andThen]
  · obtain ⟨rfl, _⟩ := h.at0 (by omega)
    obtain ⟨v', w', r1, r2, r3, _⟩ := run_append_own w base 26 ty 5 j0 _ 1 1 Try.underlying26 hj hy0 hy1 hy2 rfl (by omega) v l.length (byC l) hown ⟨b, o, none⟩ m.length cap (byC m) (by simp [byC]) (fun j u hu => by
      simp only [byC, List.getElem?_map, Option.map_eq_some_iff] at hu
      obtain ⟨n, hn, rfl⟩ := hu
      rw [addB]; exact h.cell j n hn) (oneB m) (by unfold maxLen; omega) (by omega) hbase
    refine ⟨v', w', r1, ?_, r3⟩
    unfold OwnB
    rw [List.length_append, byC, List.map_append]
    exact r2
/-- A text's bytes are appended. -/
theorem run_append_str (ty : TypeId) {w : World} {base : Nat} {v : Value} {l : List Nat} (hown : OwnB w base l v) (s : ByteArray) (hn : l.length + s.size ≤ 140737488355328) (hbase : base ≤ w.heap.size) :
    ∃ v' w', (Builtin.append_ #[26, 9] ty #[v, .string s]).run Try.prog w = .ok v' w' ∧ OwnB w' base (l ++ nl s) v' ∧ w.grownBy w' v.ownBlock := by
  obtain ⟨j0, hj, hy0, hy1, hy2⟩ := info_parts info_byte
  obtain ⟨v', w', r1, r2, r3, _⟩ := Lib.run_append_own_string (P := Try.prog) w base 26 9 ty 5 j0 Try.underlying26 Try.underlying9 hj hy0 hy1 hy2 v l.length (byC l) hown s (by unfold maxLen; omega) (by omega) hbase
  refine ⟨v', w', r1, ?_, r3⟩
  unfold OwnB
  rw [List.length_append, nl_len]
  have e : byC (l ++ nl s) = byC l ++ Lib.strCells s := by
    unfold byC nl Lib.strCells
    rw [List.map_append, ByteArray.toList_eq, List.map_map]
    rfl
  rw [e]
  exact r2
/-- A block that was just made is owned. -/
theorem own_new {w : World} {base : Nat} (l : List Nat) (h : base ≤ w.heap.size) (hm : l.length ≤ maxLen) : OwnB (w.alloc (.cells (byC l).toArray 5)) base l (.slice (some ⟨w.heap.size, 0, none⟩) l.length l.length) :=
  ⟨by simp [byC], .inr ⟨w.heap.size, _, _, rfl, h, heap_alloc_new w _, Nat.le_refl _, hm, by simp [byC], by simp only [byC, Nat.mul_one, List.toList_toArray]; exact List.take_of_length_le (by simp)⟩⟩
/-- One byte more. -/
theorem push_byte (ty : TypeId) {w w0 : World} {base : Nat} {v : Value} {l : List Nat} (hown : OwnB w base l v) (hb : Below base w0 w) (hbase : base ≤ w.heap.size) (x : Nat) (y : Int) (hy : y = x) (hx : x < 256) (hl : l.length ≤ 140737488355320) :
    ∃ v' w', (Builtin.append_ #[26, 26] ty #[v, .slice (some ⟨w.heap.size, 0, none⟩) 1 1]).run Try.prog (w.alloc (.cells #[.int .u8 y] 5)) = .ok v' w' ∧ OwnB w' base (l ++ [x]) v' ∧ Below base w0 w' := by
  subst hy
  have h1 := (own_new (w := w) (base := base) [x] hbase (by unfold maxLen; simp)).by (fun n hn => by simp at hn; omega)
  obtain ⟨v', w', r1, r2, r3⟩ := run_append_by ty (hown.alloc (.cells #[.int .u8 (x : Int)] 5)) h1 (by simp; omega) (by simp; omega)
  exact ⟨v', w', r1, r2, below_pushB (hown.alloc _) (hb.alloc (by omega) _) (Nat.le_refl _) r3 (by simp; omega)⟩
/-- A block that was just made, and marked. -/
theorem by_marked (w : World) (l : List Nat) (fr : Nat × Nat) (hm : l.length ≤ maxLen) (hok : ∀ n ∈ l, n < 256) : ByW (w.alloc (.cells (byC l).toArray 5 fr)) l (.slice (some ⟨w.heap.size, 0, none⟩) l.length l.length) :=
  ⟨_, l.length, w.heap.size, 0, rfl, Nat.le_refl _, hm, fun _ => ⟨rfl, by simp⟩, fun k n hk => by
    rw [World.cell?_alloc_mark]
    simp [byC, hk], hok⟩
theorem run_len_by (ty : TypeId) (w : World) (oa : Option Addr) (n cap : Nat) : (Builtin.len_ #[26] ty #[.slice oa n cap]).run Try.prog w = .ok (.int .i64 n) w := by
  simp [Builtin.len_, run_underlying Try.underlying26, goInt]

end Go.Proofs.Yteofkbidahefeaa
