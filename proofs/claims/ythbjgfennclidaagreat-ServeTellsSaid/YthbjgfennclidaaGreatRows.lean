/-
  NARROWER THAN 'FOR EVERY INPUT', by the rows' own cells (each row's printed sentence says how): ServeTells: loops · ServeAsks: loops · ServeNew: loops · TakeTells: loops · TakePlays: loops.
  DERIVED. THE GIVEN ROWS OF THIS SEAT. 5 by the template 'for every input the law returns true; each argument reads behind the call as it read before'; 0 by the template 'total and deterministic' (their statements: YthbjgfennclidaaGreatTotals.lean).
  GIVEN WITH THE SEED: the statements are not yours to turn. If you find one false, say at which input.
  Laid BY PROGRAM, IN A SANDBOX (cutbox-rows.mjs): the forced cells as the released guide's own fill.sh prints them over the translation 772a904dff56ee80… (all of the seat's roots in one cut). By AI agents, Wed Nov 11 2026. No macro, syntax, notation, axiom, sorry.
-/
import Derived.Test.YthbjgfennclidaaGreatChecked
import GoSem.Claim
import GoSem.ClaimJoined
import GoSem.ClaimMapViews
import Derived.JoinedTies
import Derived.KernelRfl
namespace Go.Proofs.YthbjgfennclidaaGreat
/- THE CELL 'sum', in the pinned program and in every row, IS THE sha256 OF THE DUMP (.gsa) THAT YthbjgfennclidaaGreatProg.lean LOADS. Nothing in Lean hashes anything: it is a label: what it is worth is what the hold of that sum in a sandbox is worth. -/
noncomputable def Tryz.pinned : Pinned := { name := "ythbjgfennclidaagreat", sum := "772a904dff56ee805102551fbaef157bb4c2f87dd582bb4aeb73b069e55c990a", checked := Tryz.checked }
namespace Rows
def none {H : Type} : Left H := { results := [], args := [] }

/-- 'gallipotlaw12.ServeTells': WHATEVER THE INPUT: true; the input reads as it did. -/
def serveTellsSpec : ChangeSpec := { name := "serveTells", fn := fun _ => fun
  | [d1, d2, d3] => { results := [.lit (.bool true)], args := [d1, d2, d3] }
  | _ => none }
def serveTellsRow : OpenClaim := { program := "ythbjgfennclidaagreat", sum := "772a904dff56ee805102551fbaef157bb4c2f87dd582bb4aeb73b069e55c990a", func := "gallipot/gallipotlaw12.ServeTells", spec := "serveTells", inPlace := ["math.archTrunc", "math.Float64bits", "math.Float64frombits"], unfollowed := true, recurses := true, loops := true, plainKeys := false, apart := false }
def ServeTellsSaid : Prop := serveTellsRow.holds Tryz.pinned (OpenSpec.ofChange serveTellsSpec)

/-- ITS FALSE NEIGHBOUR: 'it returns false'. Refute it at one input. -/
def serveTellsWrong : ChangeSpec := { name := "serveTells", fn := fun _ => fun
  | [d1, d2, d3] => { results := [.lit (.bool false)], args := [d1, d2, d3] }
  | _ => none }
def ServeTellsWrongFalsely : Prop := serveTellsRow.holds Tryz.pinned (OpenSpec.ofChange serveTellsWrong)

/-- 'gallipotlaw12.ServeAsks': WHATEVER THE INPUT: true; the input reads as it did. -/
def serveAsksSpec : ChangeSpec := { name := "serveAsks", fn := fun _ => fun
  | [d1, d2, d3] => { results := [.lit (.bool true)], args := [d1, d2, d3] }
  | _ => none }
def serveAsksRow : OpenClaim := { program := "ythbjgfennclidaagreat", sum := "772a904dff56ee805102551fbaef157bb4c2f87dd582bb4aeb73b069e55c990a", func := "gallipot/gallipotlaw12.ServeAsks", spec := "serveAsks", inPlace := ["math.archTrunc", "math.Float64bits", "math.Float64frombits"], unfollowed := true, recurses := true, loops := true, plainKeys := false, apart := false }
def ServeAsksSaid : Prop := serveAsksRow.holds Tryz.pinned (OpenSpec.ofChange serveAsksSpec)

/-- ITS FALSE NEIGHBOUR: 'it returns false'. Refute it at one input. -/
def serveAsksWrong : ChangeSpec := { name := "serveAsks", fn := fun _ => fun
  | [d1, d2, d3] => { results := [.lit (.bool false)], args := [d1, d2, d3] }
  | _ => none }
def ServeAsksWrongFalsely : Prop := serveAsksRow.holds Tryz.pinned (OpenSpec.ofChange serveAsksWrong)

/-- 'gallipotlaw12.ServeNew': WHATEVER THE INPUT: true; the input reads as it did. -/
def serveNewSpec : ChangeSpec := { name := "serveNew", fn := fun _ => fun
  | [d1, d2, d3] => { results := [.lit (.bool true)], args := [d1, d2, d3] }
  | _ => none }
def serveNewRow : OpenClaim := { program := "ythbjgfennclidaagreat", sum := "772a904dff56ee805102551fbaef157bb4c2f87dd582bb4aeb73b069e55c990a", func := "gallipot/gallipotlaw12.ServeNew", spec := "serveNew", inPlace := ["math.archTrunc", "math.Float64bits", "math.Float64frombits"], unfollowed := true, recurses := true, loops := true, plainKeys := false, apart := false }
def ServeNewSaid : Prop := serveNewRow.holds Tryz.pinned (OpenSpec.ofChange serveNewSpec)

/-- ITS FALSE NEIGHBOUR: 'it returns false'. Refute it at one input. -/
def serveNewWrong : ChangeSpec := { name := "serveNew", fn := fun _ => fun
  | [d1, d2, d3] => { results := [.lit (.bool false)], args := [d1, d2, d3] }
  | _ => none }
def ServeNewWrongFalsely : Prop := serveNewRow.holds Tryz.pinned (OpenSpec.ofChange serveNewWrong)

/-- 'gallipotlaw13.TakeTells': WHATEVER THE INPUT: true; the input reads as it did. -/
def takeTellsSpec : ChangeSpec := { name := "takeTells", fn := fun _ => fun
  | [d1, d2, d3] => { results := [.lit (.bool true)], args := [d1, d2, d3] }
  | _ => none }
def takeTellsRow : OpenClaim := { program := "ythbjgfennclidaagreat", sum := "772a904dff56ee805102551fbaef157bb4c2f87dd582bb4aeb73b069e55c990a", func := "gallipot/gallipotlaw13.TakeTells", spec := "takeTells", inPlace := ["math.archTrunc", "math.Float64bits", "math.Float64frombits", "slices.overlaps[int]"], unfollowed := true, recurses := true, loops := true, plainKeys := false, apart := false }
def TakeTellsSaid : Prop := takeTellsRow.holds Tryz.pinned (OpenSpec.ofChange takeTellsSpec)

/-- ITS FALSE NEIGHBOUR: 'it returns false'. Refute it at one input. -/
def takeTellsWrong : ChangeSpec := { name := "takeTells", fn := fun _ => fun
  | [d1, d2, d3] => { results := [.lit (.bool false)], args := [d1, d2, d3] }
  | _ => none }
def TakeTellsWrongFalsely : Prop := takeTellsRow.holds Tryz.pinned (OpenSpec.ofChange takeTellsWrong)

/-- 'gallipotlaw13.TakePlays': WHATEVER THE INPUT: true; the input reads as it did. -/
def takePlaysSpec : ChangeSpec := { name := "takePlays", fn := fun _ => fun
  | [d1, d2, d3] => { results := [.lit (.bool true)], args := [d1, d2, d3] }
  | _ => none }
def takePlaysRow : OpenClaim := { program := "ythbjgfennclidaagreat", sum := "772a904dff56ee805102551fbaef157bb4c2f87dd582bb4aeb73b069e55c990a", func := "gallipot/gallipotlaw13.TakePlays", spec := "takePlays", inPlace := ["math.archTrunc", "math.Float64bits", "math.Float64frombits", "slices.overlaps[int]"], unfollowed := true, recurses := true, loops := true, plainKeys := false, apart := false }
def TakePlaysSaid : Prop := takePlaysRow.holds Tryz.pinned (OpenSpec.ofChange takePlaysSpec)

/-- ITS FALSE NEIGHBOUR: 'it returns false'. Refute it at one input. -/
def takePlaysWrong : ChangeSpec := { name := "takePlays", fn := fun _ => fun
  | [d1, d2, d3] => { results := [.lit (.bool false)], args := [d1, d2, d3] }
  | _ => none }
def TakePlaysWrongFalsely : Prop := takePlaysRow.holds Tryz.pinned (OpenSpec.ofChange takePlaysWrong)

/- THE SECOND FORM. 'bulk': how many values and letters a reading holds, each counted each time it is reached (what is shared counts as often as it is met; a slice's spare places count too). A statement '..UptoSaid' is the law's where the arguments, and the package variables that the reading takes, are together of bulk at most 1048576: NARROWER than '..Said'. Prove '..Said' where nothing that the law and all that it calls make is longer than what came in: it says more and counts as full. Else prove '..UptoSaid'. A law counts once. -/
mutual
def uptoBulk {H : Type} : DataW H → Nat
  | .lit (.string bytes) => bytes.length + 1
  | .lit _ => 1
  | .nil => 1
  | .ptr d => uptoBulk d + 1
  | .slice elems spare => uptoBulkAll elems + uptoBulkAll spare + 1
  | .agg parts => uptoBulkAll parts + 1
  | .iface _ d => uptoBulk d + 1
  | .map entries => uptoBulkEntries entries + 1
  | .held _ => 1
def uptoBulkAll {H : Type} : List (DataW H) → Nat
  | [] => 0
  | d :: r => uptoBulk d + uptoBulkAll r
def uptoBulkEntries {H : Type} : List (Lit × DataW H) → Nat
  | [] => 0
  | x :: r => uptoBulkEntry x + uptoBulkEntries r
def uptoBulkEntry {H : Type} : Lit × DataW H → Nat
  | (.string bytes, d) => bytes.length + uptoBulk d + 1
  | (_, d) => uptoBulk d + 1
 end
def uptoSmall : (H : Type) → List (DataW H) → Bool := fun _ ds => decide (uptoBulkAll ds ≤ 1048576)
def OpenSpec.upto (s : _root_.Go.ChangeSpec) : _root_.Go.OpenSpec := { _root_.Go.OpenSpec.ofChange s with cond := some uptoSmall }

/-- 'gallipotlaw12.ServeTells', WHERE WHAT IT READS IS OF BULK AT MOST 1048576: true; the input reads as it did. -/
def serveTellsUptoRow : OpenClaim := { program := "ythbjgfennclidaagreat", sum := "772a904dff56ee805102551fbaef157bb4c2f87dd582bb4aeb73b069e55c990a", func := "gallipot/gallipotlaw12.ServeTells", spec := "serveTells", inPlace := ["math.archTrunc", "math.Float64bits", "math.Float64frombits"], unfollowed := true, recurses := true, loops := true, plainKeys := false, apart := false, narrowed := true }
def ServeTellsUptoSaid : Prop := serveTellsUptoRow.holds Tryz.pinned (OpenSpec.upto serveTellsSpec)

/-- 'gallipotlaw12.ServeAsks', WHERE WHAT IT READS IS OF BULK AT MOST 1048576: true; the input reads as it did. -/
def serveAsksUptoRow : OpenClaim := { program := "ythbjgfennclidaagreat", sum := "772a904dff56ee805102551fbaef157bb4c2f87dd582bb4aeb73b069e55c990a", func := "gallipot/gallipotlaw12.ServeAsks", spec := "serveAsks", inPlace := ["math.archTrunc", "math.Float64bits", "math.Float64frombits"], unfollowed := true, recurses := true, loops := true, plainKeys := false, apart := false, narrowed := true }
def ServeAsksUptoSaid : Prop := serveAsksUptoRow.holds Tryz.pinned (OpenSpec.upto serveAsksSpec)

/-- 'gallipotlaw12.ServeNew', WHERE WHAT IT READS IS OF BULK AT MOST 1048576: true; the input reads as it did. -/
def serveNewUptoRow : OpenClaim := { program := "ythbjgfennclidaagreat", sum := "772a904dff56ee805102551fbaef157bb4c2f87dd582bb4aeb73b069e55c990a", func := "gallipot/gallipotlaw12.ServeNew", spec := "serveNew", inPlace := ["math.archTrunc", "math.Float64bits", "math.Float64frombits"], unfollowed := true, recurses := true, loops := true, plainKeys := false, apart := false, narrowed := true }
def ServeNewUptoSaid : Prop := serveNewUptoRow.holds Tryz.pinned (OpenSpec.upto serveNewSpec)

/-- 'gallipotlaw13.TakeTells', WHERE WHAT IT READS IS OF BULK AT MOST 1048576: true; the input reads as it did. -/
def takeTellsUptoRow : OpenClaim := { program := "ythbjgfennclidaagreat", sum := "772a904dff56ee805102551fbaef157bb4c2f87dd582bb4aeb73b069e55c990a", func := "gallipot/gallipotlaw13.TakeTells", spec := "takeTells", inPlace := ["math.archTrunc", "math.Float64bits", "math.Float64frombits", "slices.overlaps[int]"], unfollowed := true, recurses := true, loops := true, plainKeys := false, apart := false, narrowed := true }
def TakeTellsUptoSaid : Prop := takeTellsUptoRow.holds Tryz.pinned (OpenSpec.upto takeTellsSpec)

/-- 'gallipotlaw13.TakePlays', WHERE WHAT IT READS IS OF BULK AT MOST 1048576: true; the input reads as it did. -/
def takePlaysUptoRow : OpenClaim := { program := "ythbjgfennclidaagreat", sum := "772a904dff56ee805102551fbaef157bb4c2f87dd582bb4aeb73b069e55c990a", func := "gallipot/gallipotlaw13.TakePlays", spec := "takePlays", inPlace := ["math.archTrunc", "math.Float64bits", "math.Float64frombits", "slices.overlaps[int]"], unfollowed := true, recurses := true, loops := true, plainKeys := false, apart := false, narrowed := true }
def TakePlaysUptoSaid : Prop := takePlaysUptoRow.holds Tryz.pinned (OpenSpec.upto takePlaysSpec)

end Rows
end Go.Proofs.YthbjgfennclidaaGreat
