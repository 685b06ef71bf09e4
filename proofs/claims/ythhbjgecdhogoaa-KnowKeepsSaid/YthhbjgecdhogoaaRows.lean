/-
  No cell of these rows narrows 'for every input' (looked for: loops, veiled, ifaces, maps, wideKeys, modest, calm, conditions, laid).
  DERIVED. THE GIVEN ROWS OF THIS SEAT. 3 by the template 'for every input the law returns true; each argument reads behind the call as it read before'; 0 by the template 'total and deterministic' (their statements: YthhbjgecdhogoaaTotals.lean).
  GIVEN WITH THE SEED: the statements are not yours to turn. If you find one false, say at which input.
  Laid BY PROGRAM, IN A SANDBOX (cutbox-rows.mjs): the forced cells as the released guide's own fill.sh prints them over the translation 7f0b00048c688756… (all of the seat's roots in one cut). By AI agents, Wed Nov 11 2026. No macro, syntax, notation, axiom, sorry.
-/
import Derived.Test.YthhbjgecdhogoaaChecked
import GoSem.Claim
import GoSem.ClaimJoined
import GoSem.ClaimMapViews
import Derived.JoinedTies
import Derived.KernelRfl
namespace Go.Proofs.Ythhbjgecdhogoaa
/- THE CELL 'sum', in the pinned program and in every row, IS THE sha256 OF THE DUMP (.gsa) THAT YthhbjgecdhogoaaProg.lean LOADS. Nothing in Lean hashes anything: it is a label: what it is worth is what the hold of that sum in a sandbox is worth. -/
noncomputable def Try.pinned : Pinned := { name := "ythhbjgecdhogoaa", sum := "7f0b00048c688756d4a01564167175178ebca605725cd4a94f1ed4b493fb7358", checked := Try.checked }
namespace Rows
def none {H : Type} : Left H := { results := [], args := [] }

/-- 'gallipotlaw07.KnowTells': WHATEVER THE INPUT: true; the input reads as it did. -/
def knowTellsSpec : ChangeSpec := { name := "knowTells", fn := fun _ => fun
  | [d1, d2, d3] => { results := [.lit (.bool true)], args := [d1, d2, d3] }
  | _ => none }
def knowTellsRow : OpenClaim := { program := "ythhbjgecdhogoaa", sum := "7f0b00048c688756d4a01564167175178ebca605725cd4a94f1ed4b493fb7358", func := "gallipot/gallipotlaw07.KnowTells", spec := "knowTells", unfollowed := true, recurses := true, plainKeys := false, apart := false }
def KnowTellsSaid : Prop := knowTellsRow.holds Try.pinned (OpenSpec.ofChange knowTellsSpec)

/-- ITS FALSE NEIGHBOUR: 'it returns false'. Refute it at one input. -/
def knowTellsWrong : ChangeSpec := { name := "knowTells", fn := fun _ => fun
  | [d1, d2, d3] => { results := [.lit (.bool false)], args := [d1, d2, d3] }
  | _ => none }
def KnowTellsWrongFalsely : Prop := knowTellsRow.holds Try.pinned (OpenSpec.ofChange knowTellsWrong)

/-- 'gallipotlaw07.KnowJoins': WHATEVER THE INPUT: true; the input reads as it did. -/
def knowJoinsSpec : ChangeSpec := { name := "knowJoins", fn := fun _ => fun
  | [d1, d2] => { results := [.lit (.bool true)], args := [d1, d2] }
  | _ => none }
def knowJoinsRow : OpenClaim := { program := "ythhbjgecdhogoaa", sum := "7f0b00048c688756d4a01564167175178ebca605725cd4a94f1ed4b493fb7358", func := "gallipot/gallipotlaw07.KnowJoins", spec := "knowJoins", unfollowed := true, recurses := true, plainKeys := false, apart := false }
def KnowJoinsSaid : Prop := knowJoinsRow.holds Try.pinned (OpenSpec.ofChange knowJoinsSpec)

/-- ITS FALSE NEIGHBOUR: 'it returns false'. Refute it at one input. -/
def knowJoinsWrong : ChangeSpec := { name := "knowJoins", fn := fun _ => fun
  | [d1, d2] => { results := [.lit (.bool false)], args := [d1, d2] }
  | _ => none }
def KnowJoinsWrongFalsely : Prop := knowJoinsRow.holds Try.pinned (OpenSpec.ofChange knowJoinsWrong)

/-- 'gallipotlaw07.KnowKeeps': WHATEVER THE INPUT: true; the input reads as it did. -/
def knowKeepsSpec : ChangeSpec := { name := "knowKeeps", fn := fun _ => fun
  | [d1, d2, d3, d4, d5, d6] => { results := [.lit (.bool true)], args := [d1, d2, d3, d4, d5, d6] }
  | _ => none }
def knowKeepsRow : OpenClaim := { program := "ythhbjgecdhogoaa", sum := "7f0b00048c688756d4a01564167175178ebca605725cd4a94f1ed4b493fb7358", func := "gallipot/gallipotlaw07.KnowKeeps", spec := "knowKeeps", unfollowed := true, recurses := true, plainKeys := false, apart := false }
def KnowKeepsSaid : Prop := knowKeepsRow.holds Try.pinned (OpenSpec.ofChange knowKeepsSpec)

/-- ITS FALSE NEIGHBOUR: 'it returns false'. Refute it at one input. -/
def knowKeepsWrong : ChangeSpec := { name := "knowKeeps", fn := fun _ => fun
  | [d1, d2, d3, d4, d5, d6] => { results := [.lit (.bool false)], args := [d1, d2, d3, d4, d5, d6] }
  | _ => none }
def KnowKeepsWrongFalsely : Prop := knowKeepsRow.holds Try.pinned (OpenSpec.ofChange knowKeepsWrong)

/- THE SECOND FORM. 'bulk': how many values and letters a reading holds, each counted each time it is reached (what is shared counts as often as it is met; a slice's spare places count too). A statement '..UptoSaid' is the law's where the arguments, and the package variables that the reading takes, are together of bulk at most 1048576: NARROWER than '..Said'. Prove '..Said' where nothing that the law and all that it calls make is longer than what came in: it says more and counts as full. Else prove '..UptoSaid'. A law counts once. -/
mutual
def uptoBulk {H : Type} : DataW H → Nat
  | .lit (.string bytes) => bytes.length + 1
  | .lit _ => 1
  | .nil => 1
  | .ptr d => uptoBulk d + 1
  | .slice elems spare => uptoBulkAll elems + uptoBulkAll spare + 1
  | .agg parts => uptoBulkAll parts + 1
  | .iface _ d => uptoBulk d + 1
  | .map entries => uptoBulkEntries entries + 1
  | .held _ => 1
def uptoBulkAll {H : Type} : List (DataW H) → Nat
  | [] => 0
  | d :: r => uptoBulk d + uptoBulkAll r
def uptoBulkEntries {H : Type} : List (Lit × DataW H) → Nat
  | [] => 0
  | x :: r => uptoBulkEntry x + uptoBulkEntries r
def uptoBulkEntry {H : Type} : Lit × DataW H → Nat
  | (.string bytes, d) => bytes.length + uptoBulk d + 1
  | (_, d) => uptoBulk d + 1
 end
def uptoSmall : (H : Type) → List (DataW H) → Bool := fun _ ds => decide (uptoBulkAll ds ≤ 1048576)
def OpenSpec.upto (s : _root_.Go.ChangeSpec) : _root_.Go.OpenSpec := { _root_.Go.OpenSpec.ofChange s with cond := some uptoSmall }

/-- 'gallipotlaw07.KnowTells', WHERE WHAT IT READS IS OF BULK AT MOST 1048576: true; the input reads as it did. -/
def knowTellsUptoRow : OpenClaim := { program := "ythhbjgecdhogoaa", sum := "7f0b00048c688756d4a01564167175178ebca605725cd4a94f1ed4b493fb7358", func := "gallipot/gallipotlaw07.KnowTells", spec := "knowTells", unfollowed := true, recurses := true, plainKeys := false, apart := false, narrowed := true }
def KnowTellsUptoSaid : Prop := knowTellsUptoRow.holds Try.pinned (OpenSpec.upto knowTellsSpec)

/-- 'gallipotlaw07.KnowJoins', WHERE WHAT IT READS IS OF BULK AT MOST 1048576: true; the input reads as it did. -/
def knowJoinsUptoRow : OpenClaim := { program := "ythhbjgecdhogoaa", sum := "7f0b00048c688756d4a01564167175178ebca605725cd4a94f1ed4b493fb7358", func := "gallipot/gallipotlaw07.KnowJoins", spec := "knowJoins", unfollowed := true, recurses := true, plainKeys := false, apart := false, narrowed := true }
def KnowJoinsUptoSaid : Prop := knowJoinsUptoRow.holds Try.pinned (OpenSpec.upto knowJoinsSpec)

/-- 'gallipotlaw07.KnowKeeps', WHERE WHAT IT READS IS OF BULK AT MOST 1048576: true; the input reads as it did. -/
def knowKeepsUptoRow : OpenClaim := { program := "ythhbjgecdhogoaa", sum := "7f0b00048c688756d4a01564167175178ebca605725cd4a94f1ed4b493fb7358", func := "gallipot/gallipotlaw07.KnowKeeps", spec := "knowKeeps", unfollowed := true, recurses := true, plainKeys := false, apart := false, narrowed := true }
def KnowKeepsUptoSaid : Prop := knowKeepsUptoRow.holds Try.pinned (OpenSpec.upto knowKeepsSpec)

end Rows
end Go.Proofs.Ythhbjgecdhogoaa
