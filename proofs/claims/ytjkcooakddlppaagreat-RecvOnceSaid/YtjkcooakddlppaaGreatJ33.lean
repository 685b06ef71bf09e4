/- Joined: RefSt8, RcvM, RefSt9, RefSt10. -/
import Derived.Test.YtjkcooakddlppaaGreatJ32
import Derived.Test.YtjkcooakddlppaaGreatJ31
import Derived.Test.YtjkcooakddlppaaGreatJ27
/- What a state's replica does by itself, the document's answers: Update. Walked. -/
namespace Go.Proofs.YtjkcooakddlppaaGreat
set_option linter.unusedVariables false
set_option linter.unusedSimpArgs false
set_option maxRecDepth 100000
open Go.RowKit
end Go.Proofs.YtjkcooakddlppaaGreat
/- What comes to a state, and what goes: plain mathematics. No walk. -/
namespace Go.Proofs.YtjkcooakddlppaaGreat
set_option linter.unusedVariables false
set_option linter.unusedSimpArgs false
set_option maxRecDepth 100000
open Go Go.RowKit
def comesB (s : St) (x : Itm) : Bool := mayT x && (!(decide (x.r = s.r)) || decide (x.c ≤ s.count))
def newB (s : St) (x : Itm) : Bool := !(standsS s x.id).2 || behT x (standsS s x.id).1
def preR (s : St) (x : Itm) : St := ⟨s.r, s.f, s.store, s.out, ⟨s.k.star, (plainB (withK s.k x.id x.r x.c)).l⟩, s.count, max s.clock x.st, s.epoch⟩
def fullR (s : St) (x : Itm) : Bool := newB s x && (hasT s.f x && (!(standsS s x.id).2 && decide (s.store.length + s.out.length = 40)))
def recvE (s : St) (x : Itm) : Int := if comesB s x = true then (if hasK s.k x.id x.r x.c = true then 0 else (if fullR s x = true then 4 else 0)) else 1
def recvS (s : St) (x : Itm) : St :=
  if comesB s x = true then (if hasK s.k x.id x.r x.c = true then s else (if fullR s x = true then s else (if newB s x = true then laidS (preR s x) x false else preR s x))) else s
def dropS (s : St) (id : ByteArray) : St := ⟨s.r, s.f, s.store.filter (neB id), s.out, s.k, s.count, s.clock, s.epoch⟩
def wentI (x : Itm) (r c : Int) : Itm := ⟨x.id, r, c, x.st, x.kd, x.num, x.x, x.y, x.d⟩
def goesK (s : St) (id : ByteArray) (r c : Int) : Kn := ⟨s.k.star, (plainB (withK s.k id r c)).l⟩
def goesS (s : St) (id : ByteArray) (r c r' c' : Int) : St :=
  if (getI s.store id).2 = true ∧ (getI s.store id).1.r = r ∧ (getI s.store id).1.c = c then
    (if verB r' c' = true ∧ (r' ≠ s.r ∨ c' ≤ s.count) then ⟨s.r, s.f, s.store.filter (neB id), s.out, goesK s id r' c', s.count, s.clock, s.epoch⟩ else dropS s id)
  else s
end Go.Proofs.YtjkcooakddlppaaGreat
/- What a state's replica does by itself, the document's answers: Create. Walked. -/
namespace Go.Proofs.YtjkcooakddlppaaGreat
set_option linter.unusedVariables false
set_option linter.unusedSimpArgs false
set_option maxRecDepth 100000
open Go.RowKit
end Go.Proofs.YtjkcooakddlppaaGreat
/- What a state's replica does by itself, the document's answers: Delete. Walked. -/
namespace Go.Proofs.YtjkcooakddlppaaGreat
set_option linter.unusedVariables false
set_option linter.unusedSimpArgs false
set_option maxRecDepth 100000
open Go.RowKit
end Go.Proofs.YtjkcooakddlppaaGreat
