
/- The accessors of the tables of a system: sum, product, below, of the program and of its model. -/
import Derived.Test.YtiekppegfocejaaDoorBase
import Derived.Test.YtiekppegfocejaaDoorProg
import Derived.BigQuiet
namespace Go.Proofs.YtiekppegfocejaaDoor
open Go.RowKit

theorem wrap_in {x : Int} (h1 : 0 ≤ x) (h2 : x ≤ 100000) : IntKind.i64.wrap x = x := IntWalk.i64_in _ (by omega)

end Go.Proofs.YtiekppegfocejaaDoor
