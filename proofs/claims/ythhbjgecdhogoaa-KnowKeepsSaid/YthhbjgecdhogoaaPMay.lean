/- Walks of place.May and of the document's answer for it. -/
import Derived.Test.YthhbjgecdhogoaaRows
import Derived.Test.YthhbjgecdhogoaaFl
import Derived.WalkKit
import Derived.WalkSpells
import Derived.WalkLawsBesides
import Derived.Lib.Hide
namespace Go.Proofs.Ythhbjgecdhogoaa
set_option linter.unusedVariables false
set_option linter.unusedSimpArgs false
open Go.RowKit

theorem toIntegral_number (name : String) (b : Nat) (s : Bool) (m : Nat) (i : Int) (h : FloatKind.f64.decode b = .number s m i) :
    Extern.MathFloor.toIntegral name .zero #[.float .f64 b] = pure (.float .f64 (FloatKind.f64.encode ((Ieee.Datum.number s m i).integral .zero))) := by
  have key : ∀ d, FloatKind.f64.decode b = d → Extern.MathFloor.toIntegral name .zero #[.float .f64 b] =
      (match d with
      | .nan s t => if FloatKind.f64.format.quiet t = t then pure (.float .f64 b) else do
        let kept ← choose (.extern "math.Floor,Ceil,Trunc,RoundToEven.signallingNaN kept" 2)
        pure (.float .f64 (if kept == 1 then b else FloatKind.f64.encode (.nan s (FloatKind.f64.format.quiet t))))
      | d => pure (.float .f64 (FloatKind.f64.encode (d.integral .zero)))) := by
    intro d hd; subst hd; rfl
  exact key _ h

theorem inR (b : Nat) : (FloatKind.f64.format.order b 13875379345695965184 == some .gt || FloatKind.f64.format.order b 13875379345695965184 == some .eq) = Fl.geLo b := rfl
theorem inH (b : Nat) : (FloatKind.f64.format.order b 4652007308841189376 == some .lt || FloatKind.f64.format.order b 4652007308841189376 == some .eq) = Fl.leHi b := rfl
theorem inT (b : Nat) (hl : Fl.geLo b = true) (hh : Fl.leHi b = true) : (FloatKind.f64.format.order b (Fl.trunc b) == some .eq) = Fl.wb b := by
  simp only [Fl.wb, hl, hh, Bool.true_and]; rfl

def mayB (a b : Nat) : Bool := Fl.wb a && Fl.wb b

end Go.Proofs.Ythhbjgecdhogoaa
