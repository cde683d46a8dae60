/- The model's CountSystem and BoundSystem. -/
import Derived.Test.YtkokmpdmmfghhaaZ2KNumModel
import Derived.Test.YtkokmpdmmfghhaaZ2HA
import Derived.LoopTactic
set_option linter.unusedVariables false
set_option linter.unusedSimpArgs false
namespace Go.Proofs.Ytkokmpdmmfghhaa
open Go.RowKit

/-- The systems of numbers. -/
def sumF (n : Int) (a b : Nat) : Int := min ((a : Int) + b) (n + 1)
def mulF (n : Int) (a b : Nat) : Int := min ((a : Int) * b) (n + 1)
def countF (n : Int) (a b : Nat) : Bool := decide (a = b) || decide ((b : Int) = n + 1)

end Go.Proofs.Ytkokmpdmmfghhaa
