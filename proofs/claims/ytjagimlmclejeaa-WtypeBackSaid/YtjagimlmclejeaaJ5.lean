/-
  Answers of yes or no.
-/
import Derived.Test.YtjagimlmclejeaaJ3
import Derived.Test.YtjagimlmclejeaaChecked
import Derived.Deep.QuietTactic
import Derived.BigQuiet
namespace Go.Proofs.Ytjagimlmclejeaa
open Go.RowKit Go.Proofs.Own
/-- it answers whether something is so -/
def Yes (q : Prop) (w : World) (e : Ending) (w' : World) : Prop := ∃ b, e = .returned (.bool b) ∧ (b = true ↔ q) ∧ New w w'
end Go.Proofs.Ytjagimlmclejeaa
