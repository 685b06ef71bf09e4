/-
  NARROWER THAN 'FOR EVERY INPUT', by the rows' own cells (each row's printed sentence says how): LocalStarts: loops · LocalDoes: loops · LocalPlays: loops · LocalKeeps: loops.
  DERIVED. THE GIVEN ROWS OF THIS SEAT. 4 by the template 'for every input the law returns true; each argument reads behind the call as it read before'; 0 by the template 'total and deterministic' (their statements: YthnllikalobmeaaGreatTotals.lean).
  GIVEN WITH THE SEED: the statements are not yours to turn. If you find one false, say at which input.
  Laid BY PROGRAM, IN A SANDBOX (cutbox-rows.mjs): the forced cells as the released guide's own fill.sh prints them over the translation 9c65a98447462e2d… (all of the seat's roots in one cut). By AI agents, Wed Nov 11 2026. No macro, syntax, notation, axiom, sorry.
-/
import Derived.Test.YthnllikalobmeaaGreatChecked
import GoSem.Claim
import GoSem.ClaimJoined
import GoSem.ClaimMapViews
import Derived.JoinedTies
import Derived.KernelRfl
namespace Go.Proofs.YthnllikalobmeaaGreat
/- THE CELL 'sum', in the pinned program and in every row, IS THE sha256 OF THE DUMP (.gsa) THAT YthnllikalobmeaaGreatProg.lean LOADS. Nothing in Lean hashes anything: it is a label: what it is worth is what the hold of that sum in a sandbox is worth. -/
noncomputable def Tryz.pinned : Pinned := { name := "ythnllikalobmeaagreat", sum := "9c65a98447462e2d92fa8685b126ba71cb6078afc2b59a5aef6ca69094743c2d", checked := Tryz.checked }
namespace Rows
def none {H : Type} : Left H := { results := [], args := [] }

/-- 'gallipotlaw09.LocalStarts': WHATEVER THE INPUT: true; the input reads as it did. -/
def localStartsSpec : ChangeSpec := { name := "localStarts", fn := fun _ => fun
  | [d1, d2, d3] => { results := [.lit (.bool true)], args := [d1, d2, d3] }
  | _ => none }
def localStartsRow : OpenClaim := { program := "ythnllikalobmeaagreat", sum := "9c65a98447462e2d92fa8685b126ba71cb6078afc2b59a5aef6ca69094743c2d", func := "gallipot/gallipotlaw09.LocalStarts", spec := "localStarts", inPlace := ["math.archTrunc", "math.Float64bits", "math.Float64frombits"], unfollowed := true, recurses := true, loops := true, plainKeys := false, apart := false }
def LocalStartsSaid : Prop := localStartsRow.holds Tryz.pinned (OpenSpec.ofChange localStartsSpec)

/-- ITS FALSE NEIGHBOUR: 'it returns false'. Refute it at one input. -/
def localStartsWrong : ChangeSpec := { name := "localStarts", fn := fun _ => fun
  | [d1, d2, d3] => { results := [.lit (.bool false)], args := [d1, d2, d3] }
  | _ => none }
def LocalStartsWrongFalsely : Prop := localStartsRow.holds Tryz.pinned (OpenSpec.ofChange localStartsWrong)

/-- 'gallipotlaw09.LocalDoes': WHATEVER THE INPUT: true; the input reads as it did. -/
def localDoesSpec : ChangeSpec := { name := "localDoes", fn := fun _ => fun
  | [d1, d2] => { results := [.lit (.bool true)], args := [d1, d2] }
  | _ => none }
def localDoesRow : OpenClaim := { program := "ythnllikalobmeaagreat", sum := "9c65a98447462e2d92fa8685b126ba71cb6078afc2b59a5aef6ca69094743c2d", func := "gallipot/gallipotlaw09.LocalDoes", spec := "localDoes", inPlace := ["math.archTrunc", "math.Float64bits", "math.Float64frombits"], unfollowed := true, recurses := true, loops := true, plainKeys := false, apart := false }
def LocalDoesSaid : Prop := localDoesRow.holds Tryz.pinned (OpenSpec.ofChange localDoesSpec)

/-- ITS FALSE NEIGHBOUR: 'it returns false'. Refute it at one input. -/
def localDoesWrong : ChangeSpec := { name := "localDoes", fn := fun _ => fun
  | [d1, d2] => { results := [.lit (.bool false)], args := [d1, d2] }
  | _ => none }
def LocalDoesWrongFalsely : Prop := localDoesRow.holds Tryz.pinned (OpenSpec.ofChange localDoesWrong)

/-- 'gallipotlaw09.LocalPlays': WHATEVER THE INPUT: true; the input reads as it did. -/
def localPlaysSpec : ChangeSpec := { name := "localPlays", fn := fun _ => fun
  | [d1, d2, d3] => { results := [.lit (.bool true)], args := [d1, d2, d3] }
  | _ => none }
def localPlaysRow : OpenClaim := { program := "ythnllikalobmeaagreat", sum := "9c65a98447462e2d92fa8685b126ba71cb6078afc2b59a5aef6ca69094743c2d", func := "gallipot/gallipotlaw09.LocalPlays", spec := "localPlays", inPlace := ["math.archTrunc", "math.Float64bits", "math.Float64frombits"], unfollowed := true, recurses := true, loops := true, plainKeys := false, apart := false }
def LocalPlaysSaid : Prop := localPlaysRow.holds Tryz.pinned (OpenSpec.ofChange localPlaysSpec)

/-- ITS FALSE NEIGHBOUR: 'it returns false'. Refute it at one input. -/
def localPlaysWrong : ChangeSpec := { name := "localPlays", fn := fun _ => fun
  | [d1, d2, d3] => { results := [.lit (.bool false)], args := [d1, d2, d3] }
  | _ => none }
def LocalPlaysWrongFalsely : Prop := localPlaysRow.holds Tryz.pinned (OpenSpec.ofChange localPlaysWrong)

/-- 'gallipotlaw09.LocalKeeps': WHATEVER THE INPUT: true; the input reads as it did. -/
def localKeepsSpec : ChangeSpec := { name := "localKeeps", fn := fun _ => fun
  | [d1, d2, d3] => { results := [.lit (.bool true)], args := [d1, d2, d3] }
  | _ => none }
def localKeepsRow : OpenClaim := { program := "ythnllikalobmeaagreat", sum := "9c65a98447462e2d92fa8685b126ba71cb6078afc2b59a5aef6ca69094743c2d", func := "gallipot/gallipotlaw09.LocalKeeps", spec := "localKeeps", inPlace := ["math.archTrunc", "math.Float64bits", "math.Float64frombits"], unfollowed := true, recurses := true, loops := true, plainKeys := false, apart := false }
def LocalKeepsSaid : Prop := localKeepsRow.holds Tryz.pinned (OpenSpec.ofChange localKeepsSpec)

/-- ITS FALSE NEIGHBOUR: 'it returns false'. Refute it at one input. -/
def localKeepsWrong : ChangeSpec := { name := "localKeeps", fn := fun _ => fun
  | [d1, d2, d3] => { results := [.lit (.bool false)], args := [d1, d2, d3] }
  | _ => none }
def LocalKeepsWrongFalsely : Prop := localKeepsRow.holds Tryz.pinned (OpenSpec.ofChange localKeepsWrong)

/- THE SECOND FORM. 'bulk': how many values and letters a reading holds, each counted each time it is reached (what is shared counts as often as it is met; a slice's spare places count too). A statement '..UptoSaid' is the law's where the arguments, and the package variables that the reading takes, are together of bulk at most 1048576: NARROWER than '..Said'. Prove '..Said' where nothing that the law and all that it calls make is longer than what came in: it says more and counts as full. Else prove '..UptoSaid'. A law counts once. -/
mutual
def uptoBulk {H : Type} : DataW H → Nat
  | .lit (.string bytes) => bytes.length + 1
  | .lit _ => 1
  | .nil => 1
  | .ptr d => uptoBulk d + 1
  | .slice elems spare => uptoBulkAll elems + uptoBulkAll spare + 1
  | .agg parts => uptoBulkAll parts + 1
  | .iface _ d => uptoBulk d + 1
  | .map entries => uptoBulkEntries entries + 1
  | .held _ => 1
def uptoBulkAll {H : Type} : List (DataW H) → Nat
  | [] => 0
  | d :: r => uptoBulk d + uptoBulkAll r
def uptoBulkEntries {H : Type} : List (Lit × DataW H) → Nat
  | [] => 0
  | x :: r => uptoBulkEntry x + uptoBulkEntries r
def uptoBulkEntry {H : Type} : Lit × DataW H → Nat
  | (.string bytes, d) => bytes.length + uptoBulk d + 1
  | (_, d) => uptoBulk d + 1
 end
def uptoSmall : (H : Type) → List (DataW H) → Bool := fun _ ds => decide (uptoBulkAll ds ≤ 1048576)
def OpenSpec.upto (s : _root_.Go.ChangeSpec) : _root_.Go.OpenSpec := { _root_.Go.OpenSpec.ofChange s with cond := some uptoSmall }

/-- 'gallipotlaw09.LocalStarts', WHERE WHAT IT READS IS OF BULK AT MOST 1048576: true; the input reads as it did. -/
def localStartsUptoRow : OpenClaim := { program := "ythnllikalobmeaagreat", sum := "9c65a98447462e2d92fa8685b126ba71cb6078afc2b59a5aef6ca69094743c2d", func := "gallipot/gallipotlaw09.LocalStarts", spec := "localStarts", inPlace := ["math.archTrunc", "math.Float64bits", "math.Float64frombits"], unfollowed := true, recurses := true, loops := true, plainKeys := false, apart := false, narrowed := true }
def LocalStartsUptoSaid : Prop := localStartsUptoRow.holds Tryz.pinned (OpenSpec.upto localStartsSpec)

/-- 'gallipotlaw09.LocalDoes', WHERE WHAT IT READS IS OF BULK AT MOST 1048576: true; the input reads as it did. -/
def localDoesUptoRow : OpenClaim := { program := "ythnllikalobmeaagreat", sum := "9c65a98447462e2d92fa8685b126ba71cb6078afc2b59a5aef6ca69094743c2d", func := "gallipot/gallipotlaw09.LocalDoes", spec := "localDoes", inPlace := ["math.archTrunc", "math.Float64bits", "math.Float64frombits"], unfollowed := true, recurses := true, loops := true, plainKeys := false, apart := false, narrowed := true }
def LocalDoesUptoSaid : Prop := localDoesUptoRow.holds Tryz.pinned (OpenSpec.upto localDoesSpec)

/-- 'gallipotlaw09.LocalPlays', WHERE WHAT IT READS IS OF BULK AT MOST 1048576: true; the input reads as it did. -/
def localPlaysUptoRow : OpenClaim := { program := "ythnllikalobmeaagreat", sum := "9c65a98447462e2d92fa8685b126ba71cb6078afc2b59a5aef6ca69094743c2d", func := "gallipot/gallipotlaw09.LocalPlays", spec := "localPlays", inPlace := ["math.archTrunc", "math.Float64bits", "math.Float64frombits"], unfollowed := true, recurses := true, loops := true, plainKeys := false, apart := false, narrowed := true }
def LocalPlaysUptoSaid : Prop := localPlaysUptoRow.holds Tryz.pinned (OpenSpec.upto localPlaysSpec)

/-- 'gallipotlaw09.LocalKeeps', WHERE WHAT IT READS IS OF BULK AT MOST 1048576: true; the input reads as it did. -/
def localKeepsUptoRow : OpenClaim := { program := "ythnllikalobmeaagreat", sum := "9c65a98447462e2d92fa8685b126ba71cb6078afc2b59a5aef6ca69094743c2d", func := "gallipot/gallipotlaw09.LocalKeeps", spec := "localKeeps", inPlace := ["math.archTrunc", "math.Float64bits", "math.Float64frombits"], unfollowed := true, recurses := true, loops := true, plainKeys := false, apart := false, narrowed := true }
def LocalKeepsUptoSaid : Prop := localKeepsUptoRow.holds Tryz.pinned (OpenSpec.upto localKeepsSpec)

end Rows
end Go.Proofs.YthnllikalobmeaaGreat
