/-
  NARROWER THAN 'FOR EVERY INPUT', by the rows' own cells (each row's printed sentence says how): ContainTells: loops · ContainSound: loops · ContainGrows: loops.
  DERIVED. THE GIVEN ROWS OF THIS SEAT. 3 by the template 'for every input the law returns true; each argument reads behind the call as it read before'; 0 by the template 'total and deterministic' (their statements: YtkdgbnihcfahiaaTotals.lean).
  GIVEN WITH THE SEED: the statements are not yours to turn. If you find one false, say at which input.
  Laid BY PROGRAM, IN A SANDBOX (cutbox-rows.mjs): the forced cells as the released guide's own fill.sh prints them over the translation f1e13ff59cc4bc56… (all of the seat's roots in one cut). By AI agents, Wed Nov 11 2026. No macro, syntax, notation, axiom, sorry.
-/
import Derived.Test.YtkdgbnihcfahiaaChecked
import GoSem.Claim
import GoSem.ClaimJoined
import GoSem.ClaimMapViews
import Derived.JoinedTies
import Derived.KernelRfl
namespace Go.Proofs.Ytkdgbnihcfahiaa
/- THE CELL 'sum', in the pinned program and in every row, IS THE sha256 OF THE DUMP (.gsa) THAT YtkdgbnihcfahiaaProg.lean LOADS. Nothing in Lean hashes anything: it is a label: what it is worth is what the hold of that sum in a sandbox is worth. -/
noncomputable def Try.pinned : Pinned := { name := "ytkdgbnihcfahiaa", sum := "f1e13ff59cc4bc563788b57aeb8d2ae5aa2a9f5e63f2c6d6c88877f2ce91cb02", checked := Try.checked }
namespace Rows
def none {H : Type} : Left H := { results := [], args := [] }

/-- 'gallipotlaw05.ContainTells': WHATEVER THE INPUT: true; the input reads as it did. -/
def containTellsSpec : ChangeSpec := { name := "containTells", fn := fun _ => fun
  | [d1, d2] => { results := [.lit (.bool true)], args := [d1, d2] }
  | _ => none }
def containTellsRow : OpenClaim := { program := "ytkdgbnihcfahiaa", sum := "f1e13ff59cc4bc563788b57aeb8d2ae5aa2a9f5e63f2c6d6c88877f2ce91cb02", func := "gallipot/gallipotlaw05.ContainTells", spec := "containTells", inPlace := ["math.archTrunc", "math.Float64bits", "math.Float64frombits"], unfollowed := true, recurses := true, loops := true, apart := false }
def ContainTellsSaid : Prop := containTellsRow.holds Try.pinned (OpenSpec.ofChange containTellsSpec)

/-- ITS FALSE NEIGHBOUR: 'it returns false'. Refute it at one input. -/
def containTellsWrong : ChangeSpec := { name := "containTells", fn := fun _ => fun
  | [d1, d2] => { results := [.lit (.bool false)], args := [d1, d2] }
  | _ => none }
def ContainTellsWrongFalsely : Prop := containTellsRow.holds Try.pinned (OpenSpec.ofChange containTellsWrong)

/-- 'gallipotlaw05.ContainSound': WHATEVER THE INPUT: true; the input reads as it did. -/
def containSoundSpec : ChangeSpec := { name := "containSound", fn := fun _ => fun
  | [d1, d2, d3] => { results := [.lit (.bool true)], args := [d1, d2, d3] }
  | _ => none }
def containSoundRow : OpenClaim := { program := "ytkdgbnihcfahiaa", sum := "f1e13ff59cc4bc563788b57aeb8d2ae5aa2a9f5e63f2c6d6c88877f2ce91cb02", func := "gallipot/gallipotlaw05.ContainSound", spec := "containSound", inPlace := ["math.archTrunc", "math.Float64bits", "math.Float64frombits"], unfollowed := true, recurses := true, loops := true, apart := false }
def ContainSoundSaid : Prop := containSoundRow.holds Try.pinned (OpenSpec.ofChange containSoundSpec)

/-- ITS FALSE NEIGHBOUR: 'it returns false'. Refute it at one input. -/
def containSoundWrong : ChangeSpec := { name := "containSound", fn := fun _ => fun
  | [d1, d2, d3] => { results := [.lit (.bool false)], args := [d1, d2, d3] }
  | _ => none }
def ContainSoundWrongFalsely : Prop := containSoundRow.holds Try.pinned (OpenSpec.ofChange containSoundWrong)

/-- 'gallipotlaw05.ContainGrows': WHATEVER THE INPUT: true; the input reads as it did. -/
def containGrowsSpec : ChangeSpec := { name := "containGrows", fn := fun _ => fun
  | [d1, d2, d3] => { results := [.lit (.bool true)], args := [d1, d2, d3] }
  | _ => none }
def containGrowsRow : OpenClaim := { program := "ytkdgbnihcfahiaa", sum := "f1e13ff59cc4bc563788b57aeb8d2ae5aa2a9f5e63f2c6d6c88877f2ce91cb02", func := "gallipot/gallipotlaw05.ContainGrows", spec := "containGrows", inPlace := ["math.archTrunc", "math.Float64bits", "math.Float64frombits"], unfollowed := true, recurses := true, loops := true, apart := false }
def ContainGrowsSaid : Prop := containGrowsRow.holds Try.pinned (OpenSpec.ofChange containGrowsSpec)

/-- ITS FALSE NEIGHBOUR: 'it returns false'. Refute it at one input. -/
def containGrowsWrong : ChangeSpec := { name := "containGrows", fn := fun _ => fun
  | [d1, d2, d3] => { results := [.lit (.bool false)], args := [d1, d2, d3] }
  | _ => none }
def ContainGrowsWrongFalsely : Prop := containGrowsRow.holds Try.pinned (OpenSpec.ofChange containGrowsWrong)

/- THE SECOND FORM. 'bulk': how many values and letters a reading holds, each counted each time it is reached (what is shared counts as often as it is met; a slice's spare places count too). A statement '..UptoSaid' is the law's where the arguments, and the package variables that the reading takes, are together of bulk at most 1048576: NARROWER than '..Said'. Prove '..Said' where nothing that the law and all that it calls make is longer than what came in: it says more and counts as full. Else prove '..UptoSaid'. A law counts once. -/
mutual
def uptoBulk {H : Type} : DataW H → Nat
  | .lit (.string bytes) => bytes.length + 1
  | .lit _ => 1
  | .nil => 1
  | .ptr d => uptoBulk d + 1
  | .slice elems spare => uptoBulkAll elems + uptoBulkAll spare + 1
  | .agg parts => uptoBulkAll parts + 1
  | .iface _ d => uptoBulk d + 1
  | .map entries => uptoBulkEntries entries + 1
  | .held _ => 1
def uptoBulkAll {H : Type} : List (DataW H) → Nat
  | [] => 0
  | d :: r => uptoBulk d + uptoBulkAll r
def uptoBulkEntries {H : Type} : List (Lit × DataW H) → Nat
  | [] => 0
  | x :: r => uptoBulkEntry x + uptoBulkEntries r
def uptoBulkEntry {H : Type} : Lit × DataW H → Nat
  | (.string bytes, d) => bytes.length + uptoBulk d + 1
  | (_, d) => uptoBulk d + 1
 end
def uptoSmall : (H : Type) → List (DataW H) → Bool := fun _ ds => decide (uptoBulkAll ds ≤ 1048576)
def OpenSpec.upto (s : _root_.Go.ChangeSpec) : _root_.Go.OpenSpec := { _root_.Go.OpenSpec.ofChange s with cond := some uptoSmall }

/-- 'gallipotlaw05.ContainTells', WHERE WHAT IT READS IS OF BULK AT MOST 1048576: true; the input reads as it did. -/
def containTellsUptoRow : OpenClaim := { program := "ytkdgbnihcfahiaa", sum := "f1e13ff59cc4bc563788b57aeb8d2ae5aa2a9f5e63f2c6d6c88877f2ce91cb02", func := "gallipot/gallipotlaw05.ContainTells", spec := "containTells", inPlace := ["math.archTrunc", "math.Float64bits", "math.Float64frombits"], unfollowed := true, recurses := true, loops := true, apart := false, narrowed := true }
def ContainTellsUptoSaid : Prop := containTellsUptoRow.holds Try.pinned (OpenSpec.upto containTellsSpec)

/-- 'gallipotlaw05.ContainSound', WHERE WHAT IT READS IS OF BULK AT MOST 1048576: true; the input reads as it did. -/
def containSoundUptoRow : OpenClaim := { program := "ytkdgbnihcfahiaa", sum := "f1e13ff59cc4bc563788b57aeb8d2ae5aa2a9f5e63f2c6d6c88877f2ce91cb02", func := "gallipot/gallipotlaw05.ContainSound", spec := "containSound", inPlace := ["math.archTrunc", "math.Float64bits", "math.Float64frombits"], unfollowed := true, recurses := true, loops := true, apart := false, narrowed := true }
def ContainSoundUptoSaid : Prop := containSoundUptoRow.holds Try.pinned (OpenSpec.upto containSoundSpec)

/-- 'gallipotlaw05.ContainGrows', WHERE WHAT IT READS IS OF BULK AT MOST 1048576: true; the input reads as it did. -/
def containGrowsUptoRow : OpenClaim := { program := "ytkdgbnihcfahiaa", sum := "f1e13ff59cc4bc563788b57aeb8d2ae5aa2a9f5e63f2c6d6c88877f2ce91cb02", func := "gallipot/gallipotlaw05.ContainGrows", spec := "containGrows", inPlace := ["math.archTrunc", "math.Float64bits", "math.Float64frombits"], unfollowed := true, recurses := true, loops := true, apart := false, narrowed := true }
def ContainGrowsUptoSaid : Prop := containGrowsUptoRow.holds Try.pinned (OpenSpec.upto containGrowsSpec)

end Rows
end Go.Proofs.Ytkdgbnihcfahiaa
