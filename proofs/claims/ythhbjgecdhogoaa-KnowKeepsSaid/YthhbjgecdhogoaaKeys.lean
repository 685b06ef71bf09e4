/- The keys of the counts, sorted: the library's contracts of maps.Keys and slices.Sorted, laid at this program. No walk. -/
import Derived.Shelf.SlIter.Nil
import Derived.Shelf.SortM.Plain
import Derived.Shelf.SortM.SortNone
import Derived.Test.YthhbjgecdhogoaaKnowW
import Derived.Test.YthhbjgecdhogoaaKMap
namespace Go.Proofs.Ythhbjgecdhogoaa
set_option linter.unusedVariables false
set_option linter.unusedSimpArgs false
open Go.RowKit Go.Maps Go.Sort Go.Shelf

def keysA_ren : Go.Shelf.Ren := ⟨fun | 7 => 25 | 10 => 47 | n => n,
  fun | 23 => 41 | 26 => 9 | 3 => 23 | 28 => 46 | 0 => 0 | 27 => 45 | 33 => 59 | 4 => 4 | n => n,
  fun | n => n⟩
theorem keysA : Go.Proofs.SlLaysZ.n7 Try.prog keysA_ren := {
  mixed := by kernel_rfl,
  f7 := ⟨Try.f25.name, by decide, Try.func25.trans (congrArg some (by kernel_rfl))⟩,
  f10 := ⟨Try.f47.name, by decide, Try.func47.trans (congrArg some (by kernel_rfl))⟩,
  t0 := Try.underlying0,
  a0 := Try.isAgg0,
  z0 := Try.sizeOf0,
  v0 := Try.zeroValue0,
  t4 := Try.underlying4,
  a4 := Try.isAgg4,
  z4 := Try.sizeOf4,
  v4 := Try.zeroValue4,
  t23 := Try.underlying41,
  a23 := Try.isAgg41,
  z23 := Try.sizeOf41,
  v23 := Try.zeroValue41,
  t26 := Try.underlying9,
  a26 := Try.isAgg9,
  z26 := Try.sizeOf9,
  v26 := Try.zeroValue9,
  t27 := Try.underlying45,
  a27 := Try.isAgg45,
  z27 := Try.sizeOf45,
  v27 := Try.zeroValue45,
  t28 := Try.underlying46,
  a28 := Try.isAgg46,
  z28 := Try.sizeOf46,
  v28 := Try.zeroValue46,
  t33 := Try.underlying59,
  a33 := Try.isAgg59,
  z33 := Try.sizeOf59,
  v33 := Try.zeroValue59 }
def sortedA_ren : Go.Shelf.Ren := ⟨fun | 6 => 24 | 8 => 45 | 9 => 46 | 11 => 61 | 13 => 63 | 12 => 62 | 23 => 75 | 24 => 76 | 14 => 66 | 15 => 67 | 16 => 68 | 17 => 69 | 18 => 70 | 19 => 71 | 20 => 72 | 21 => 73 | 22 => 74 | 25 => 77 | 26 => 78 | 27 => 79 | 28 => 80 | 29 => 81 | 30 => 82 | 31 => 83 | n => n,
  fun | 26 => 9 | 28 => 46 | 24 => 38 | 0 => 0 | 3 => 3 | 37 => 76 | 48 => 87 | 50 => 89 | 4 => 4 | 40 => 80 | 39 => 79 | 45 => 49 | 5 => 5 | 9 => 9 | 51 => 90 | 55 => 94 | 57 => 96 | 58 => 97 | 33 => 59 | n => n,
  fun | n => n⟩
theorem sortedA : Go.Proofs.SlLaysZ.n6 Try.prog sortedA_ren := {
  mixed := by kernel_rfl,
  f6 := ⟨Try.f24.name, by decide, Try.func24.trans (congrArg some (by kernel_rfl))⟩,
  f8 := ⟨Try.f45.name, by decide, Try.func45.trans (congrArg some (by kernel_rfl))⟩,
  f11 := ⟨Try.f61.name, by decide, Try.func61.trans (congrArg some (by kernel_rfl))⟩,
  t0 := Try.underlying0,
  a0 := Try.isAgg0,
  z0 := Try.sizeOf0,
  v0 := Try.zeroValue0,
  t24 := Try.underlying38,
  a24 := Try.isAgg38,
  z24 := Try.sizeOf38,
  v24 := Try.zeroValue38,
  t26 := Try.underlying9,
  a26 := Try.isAgg9,
  z26 := Try.sizeOf9,
  v26 := Try.zeroValue9,
  t28 := Try.underlying46,
  a28 := Try.isAgg46,
  z28 := Try.sizeOf46,
  v28 := Try.zeroValue46,
  i26 := by kernel_rfl }
def sortA_ren : Go.Shelf.Ren := ⟨fun | 6 => 46 | 8 => 63 | 9 => 62 | 19 => 75 | 20 => 76 | 21 => 66 | 22 => 67 | 23 => 68 | 24 => 69 | 25 => 70 | 26 => 71 | 27 => 72 | 28 => 73 | 29 => 74 | 36 => 77 | 31 => 78 | 32 => 79 | 37 => 80 | 38 => 81 | 39 => 82 | 41 => 83 | n => n,
  fun | 27 => 38 | 29 => 9 | 3 => 3 | 32 => 76 | 26 => 38 | 0 => 0 | 44 => 87 | 46 => 89 | 4 => 4 | 36 => 80 | 35 => 79 | 41 => 49 | 5 => 5 | 9 => 9 | 53 => 90 | 57 => 94 | 63 => 96 | 64 => 97 | n => n,
  fun | n => n⟩
theorem sortA : Go.Proofs.SlLaysM.n6 Try.prog sortA_ren := {
  mixed := by kernel_rfl,
  f6 := ⟨Try.f46.name, by decide, Try.func46.trans (congrArg some (by kernel_rfl))⟩,
  f8 := Try.func63.trans (congrArg some (by kernel_rfl)),
  f9 := ⟨Try.f62.name, by decide, Try.func62.trans (congrArg some (by kernel_rfl))⟩,
  f19 := Try.func75.trans (congrArg some (by kernel_rfl)),
  f20 := Try.func76.trans (congrArg some (by kernel_rfl)),
  f21 := ⟨Try.f66.name, by decide, Try.func66.trans (congrArg some (by kernel_rfl))⟩,
  f22 := ⟨Try.f67.name, by decide, Try.func67.trans (congrArg some (by kernel_rfl))⟩,
  f23 := ⟨Try.f68.name, by decide, Try.func68.trans (congrArg some (by kernel_rfl))⟩,
  f24 := ⟨Try.f69.name, by decide, Try.func69.trans (congrArg some (by kernel_rfl))⟩,
  f25 := ⟨Try.f70.name, by decide, Try.func70.trans (congrArg some (by kernel_rfl))⟩,
  f26 := ⟨Try.f71.name, by decide, Try.func71.trans (congrArg some (by kernel_rfl))⟩,
  f27 := ⟨Try.f72.name, by decide, Try.func72.trans (congrArg some (by kernel_rfl))⟩,
  f28 := ⟨Try.f73.name, by decide, Try.func73.trans (congrArg some (by kernel_rfl))⟩,
  f29 := ⟨Try.f74.name, by decide, Try.func74.trans (congrArg some (by kernel_rfl))⟩,
  f31 := Try.func78.trans (congrArg some (by kernel_rfl)),
  f32 := Try.func79.trans (congrArg some (by kernel_rfl)),
  f36 := ⟨Try.f77.name, by decide, Try.func77.trans (congrArg some (by kernel_rfl))⟩,
  f37 := ⟨Try.f80.name, by decide, Try.func80.trans (congrArg some (by kernel_rfl))⟩,
  f38 := ⟨Try.f81.name, by decide, Try.func81.trans (congrArg some (by kernel_rfl))⟩,
  f39 := ⟨Try.f82.name, by decide, Try.func82.trans (congrArg some (by kernel_rfl))⟩,
  f41 := ⟨Try.f83.name, by decide, Try.func83.trans (congrArg some (by kernel_rfl))⟩,
  t0 := Try.underlying0,
  a0 := Try.isAgg0,
  z0 := Try.sizeOf0,
  v0 := Try.zeroValue0,
  t3 := Try.underlying3,
  a3 := Try.isAgg3,
  z3 := Try.sizeOf3,
  v3 := Try.zeroValue3,
  t4 := Try.underlying4,
  a4 := Try.isAgg4,
  z4 := Try.sizeOf4,
  v4 := Try.zeroValue4,
  t5 := Try.underlying5,
  a5 := Try.isAgg5,
  z5 := Try.sizeOf5,
  v5 := Try.zeroValue5,
  t9 := Try.underlying9,
  a9 := Try.isAgg9,
  z9 := Try.sizeOf9,
  v9 := Try.zeroValue9,
  t26 := Try.underlying38,
  a26 := Try.isAgg38,
  z26 := Try.sizeOf38,
  v26 := Try.zeroValue38,
  t27 := Try.underlying38,
  a27 := Try.isAgg38,
  z27 := Try.sizeOf38,
  v27 := Try.zeroValue38,
  t29 := Try.underlying9,
  a29 := Try.isAgg9,
  z29 := Try.sizeOf9,
  v29 := Try.zeroValue9,
  t32 := Try.underlying76,
  a32 := Try.isAgg76,
  z32 := Try.sizeOf76,
  v32 := Try.zeroValue76,
  t35 := Try.underlying79,
  a35 := Try.isAgg79,
  z35 := Try.sizeOf79,
  v35 := Try.zeroValue79,
  t36 := Try.underlying80,
  a36 := Try.isAgg80,
  z36 := Try.sizeOf80,
  v36 := Try.zeroValue80,
  t41 := Try.underlying49,
  a41 := Try.isAgg49,
  z41 := Try.sizeOf49,
  v41 := Try.zeroValue49,
  t44 := Try.underlying87,
  a44 := Try.isAgg87,
  z44 := Try.sizeOf87,
  v44 := Try.zeroValue87,
  t46 := Try.underlying89,
  a46 := Try.isAgg89,
  z46 := Try.sizeOf89,
  v46 := Try.zeroValue89,
  t53 := Try.underlying90,
  a53 := Try.isAgg90,
  z53 := Try.sizeOf90,
  v53 := Try.zeroValue90,
  t57 := Try.underlying94,
  a57 := Try.isAgg94,
  z57 := Try.sizeOf94,
  v57 := Try.zeroValue94,
  t63 := Try.underlying96,
  a63 := Try.isAgg96,
  z63 := Try.sizeOf96,
  v63 := Try.zeroValue96,
  t64 := Try.underlying97,
  a64 := Try.isAgg97,
  z64 := Try.sizeOf97,
  v64 := Try.zeroValue97 }

theorem sortsA (m : Nat) : AnyZ.SortsIn Try.prog sortedA_ren Fence.wide m :=
  ⟨fun blk off cap ss W hH hblk hsz => callsIn_wide.2 (AnyM.slices_Sort_string sortA blk off cap ss W hH hblk hsz),
   fun p cap W => callsIn_wide.2 (AnyM.slices_Sort_string_none sortA p cap W)⟩
theorem keys_calls (mb : Option Nat) (W : World) : Calls Try.prog 25 #[.map mb] W fun e w' => e = .returned (.func (.func 47) #[] #[.pointer (some ⟨W.heap.size, 0, none⟩)]) ∧ w' = W.alloc (.cells #[.map mb] 41) :=
  callsIn_wide.1 (AnyZ.keys_in keysA Fence.wide 5 trivial rfl mb W)
set_option maxHeartbeats 1000000 in
theorem sorted_raw {H : Type} (b nn : Nat) (D0 : DataW H) (R : Value → Option (DataW H × List MemPlace)) (w : World) (hown : w.ownsMap Try.prog 9 R b nn D0) (hmax : Maps.size D0 ≤ maxLen) (hbytes : Maps.size D0 * 16 ≤ 140737488355328) :
    Calls Try.prog 24 #[.func (.func 47) #[] #[.pointer (some ⟨w.heap.size, 0, none⟩)]] (w.alloc (.cells #[.map (some b)] 41)) fun e w' => ∃ (v : Value) (ss : List (List UInt8)), e = .returned v ∧ ss.Perm (strKeys D0) ∧
      w'.ownsRow (w.alloc (.cells #[.map (some b)] 41)).heap.size 9 1 v ss.length ((ss.mergeSort (fun x y => decide (x ≤ y))).map encStr) ∧ (v = .slice none 0 0 ↔ ss = []) ∧ Below (w.alloc (.cells #[.map (some b)] 41)).heap.size (w.alloc (.cells #[.map (some b)] 41)) w' := by
  have hbl := hown.lt
  have hseq : SeqGives Fence.wide 2 Try.prog 47 #[.pointer (some ⟨w.heap.size, 0, none⟩)] encStr (fun ss => ss.Perm (strKeys D0)) (Maps.size D0) (w.alloc (.cells #[.map (some b)] 41)) :=
    AnyZ.keys_gives (ρ := keysA_ren) { keysA with } Fence.wide _ trivial rfl (by omega) w.heap.size b nn D0 _ (by simp) (by simp) (by
      obtain ⟨es, clock, hb, Ft, hs, hD⟩ := hown
      exact ⟨es, clock, (Below.heap_alloc _ _ b hbl).trans hb, Ft, hs, hD⟩)
  exact callsIn_wide.1 (AnyZ.sorted_in sortedA Fence.wide 5 trivial trivial trivial trivial rfl (by omega) (sortsA _) (enters_of Try.func46 (by kernel_rfl) rfl) 47 #[.pointer (some ⟨w.heap.size, 0, none⟩)] trivial (enters_of Try.func47 (by kernel_rfl) rfl) _ _ hmax hbytes _ hseq)

theorem tl_data (s : ByteArray) : s.toList = s.data.toList := ByteArray.toList_eq s
theorem rise_sorted {ns : List ByteArray} (h : Rise ns) : (ns.map fun s => s.data.toList).Pairwise (fun a b => (decide (a ≤ b)) = true) := by
  refine List.pairwise_map.2 (List.Pairwise.imp (fun {a b} hab => ?_) h)
  unfold lsB at hab
  rw [Go.Proofs.bytesLess_eq, tl_data, tl_data] at hab
  rw [decide_eq_true_eq] at *
  exact List.le_of_lt hab
theorem rise_nodup {ns : List ByteArray} (h : Rise ns) : (ns.map fun s => s.data.toList).Nodup := by
  refine List.pairwise_map.2 (List.Pairwise.imp (fun {a b} hab e => ?_) h)
  exact ls_ne hab (tl_inj (by rw [tl_data, tl_data]; exact e))
theorem perm_names {H : Type} {D : DataW H} {ns : List ByteArray} (hr : Rise ns) (ht : Tidy D) (hk : ∃ es, D = .map es ∧ ∀ p ∈ es, KeysOf Try.prog 9 p.1) (hm : ∀ s : ByteArray, Maps.has D (.string s.data.toList) = true ↔ s ∈ ns) : (ns.map fun s => s.data.toList).Perm (strKeys D) := by
  obtain ⟨es, rfl, hp⟩ := ht
  obtain ⟨es', e, hk⟩ := hk
  cases e
  refine perm_strKeys hp (fun p hp' => ?_) (rise_nodup hr) fun x => ?_
  · obtain ⟨v, hv⟩ := hk p hp'
    obtain ⟨x, _, hx, _⟩ := Maps.keyOf_str Try.underlying9 hv
    exact ⟨x, hx⟩
  · have h := hm ⟨x.toArray⟩
    simp only [] at h
    rw [h, List.mem_map]
    constructor
    · rintro ⟨s, hs, rfl⟩
      exact hs
    · intro hs
      exact ⟨_, hs, rfl⟩
/-- The Ids among the counts' keys, rising. -/
theorem sorted_calls {H : Type} (b nn : Nat) (D0 : DataW H) (R : Value → Option (DataW H × List MemPlace)) (w : World) (hown : w.ownsMap Try.prog 9 R b nn D0) (ns : List ByteArray) (hr : Rise ns) (hm : ∀ s : ByteArray, Maps.has D0 (.string s.data.toList) = true ↔ s ∈ ns) (hlen : ns.length ≤ 10000) :
    Calls Try.prog 24 #[.func (.func 47) #[] #[.pointer (some ⟨w.heap.size, 0, none⟩)]] (w.alloc (.cells #[.map (some b)] 41)) fun e w' => ∃ (v : Value), e = .returned v ∧
      OwnT w' (w.heap.size + 1) ns v ∧ Below (w.heap.size + 1) (w.alloc (.cells #[.map (some b)] 41)) w' := by
  have hp := perm_names hr (hown.tidy (string_keyed Try.underlying9)) hown.keysOf hm
  have hsz : Maps.size D0 = ns.length := by
    obtain ⟨es, rfl, _⟩ := hown.keysOf
    have h1 := hp.length_eq
    simp only [strKeys, List.length_map] at h1
    rw [Maps.size_eq]; exact h1.symm
  refine (sorted_raw b nn D0 R w hown (by unfold maxLen; omega) (by omega)).mono ?_
  rintro e w' ⟨v, ss, rfl, hs, hrow, _, hb⟩
  have e1 : (w.alloc (.cells #[.map (some b)] 41)).heap.size = w.heap.size + 1 := by simp
  rw [e1] at hrow hb
  refine ⟨v, rfl, ?_, hb⟩
  have e2 : ss.length = ns.length := by rw [hs.length_eq, ← hp.length_eq, List.length_map]
  have e3 : ss.mergeSort (fun x y => decide (x ≤ y)) = ns.map fun s => s.data.toList := by
    rw [show (ss.mergeSort fun x y => decide (x ≤ y)) = _ from mergeSort_of_perm (hs.trans hp.symm)]
    exact List.mergeSort_of_pairwise (rise_sorted hr)
  have e4 : (ns.map fun s => s.data.toList).map encStr = txC ns := by
    rw [List.map_map]
    unfold txC
    refine List.map_congr_left fun s _ => ?_
    simp [encStr]
  unfold OwnT
  rw [e2, e3, e4] at hrow
  exact hrow

theorem keysC (mb : Option Nat) (W : World) (B : Nat) (hB : W.heap.size = B) : Calls Try.prog 25 #[.map mb] W fun e w' => e = .returned (.func (.func 47) #[] #[.pointer (some ⟨B, 0, none⟩)]) ∧ w' = W.alloc (.cells #[.map mb] 41) := by
  subst hB
  exact keys_calls mb W
theorem sortedC {w : World} {b nn : Nat} {ids : List ByteArray} {raw : ByteArray → Nat → Int} (h : Cnt w b nn ids raw) (ns : List ByteArray) (hr : Rise ns) (hm : ∀ s : ByteArray, s ∈ ids ↔ s ∈ ns) (hlen : ns.length ≤ 10000) (B : Nat) (hB : w.heap.size = B) :
    Calls Try.prog 24 #[.func (.func 47) #[] #[.pointer (some ⟨B, 0, none⟩)]] (w.alloc (.cells #[.map (some b)] 41)) fun e w' => ∃ (v : Value), e = .returned v ∧
      OwnT w' (B + 1) ns v ∧ Below (B + 1) (w.alloc (.cells #[.map (some b)] 41)) w' := by
  subst hB
  obtain ⟨D, ho, _, hh⟩ := h
  exact sorted_calls b nn D heldR w ho ns hr (fun s => (hh s).trans (hm s)) hlen

end Go.Proofs.Ythhbjgecdhogoaa
