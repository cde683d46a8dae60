/- The model's systems of levels. -/
import Derived.Test.YtkokmpdmmfghhaaZ2KNumModel
import Derived.Test.YtkokmpdmmfghhaaZ2HA
import Derived.Test.YtkokmpdmmfghhaaZ2KLevelClo
set_option linter.unusedVariables false
set_option linter.unusedSimpArgs false
namespace Go.Proofs.Ytkokmpdmmfghhaa
open Go.RowKit
def highF (n : Int) (a b : Nat) : Int := placeL n (max (placeL n a) (placeL n b))
def lowF (n : Int) (a b : Nat) : Int := placeL n (min (placeL n a) (placeL n b))
def leF (n : Int) (a b : Nat) : Bool := decide (placeL n a ≤ placeL n b)

end Go.Proofs.Ytkokmpdmmfghhaa
