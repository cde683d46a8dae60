
/- The model's checks of two and three grades. -/
import Derived.Test.YtiekppegfocejaaDoorModelA
namespace Go.Proofs.YtiekppegfocejaaDoor
open Go.RowKit

end Go.Proofs.YtiekppegfocejaaDoor
