
/- The program's count of a variable. -/
import Derived.Test.YtoefeijnnnioeaaDoorKUsesSpec
import Derived.Test.YtoefeijnnnioeaaDoorGH
set_option linter.unusedVariables false
set_option linter.unusedSimpArgs false
namespace Go.Proofs.YtoefeijnnnioeaaDoor
open Go.RowKit

end Go.Proofs.YtoefeijnnnioeaaDoor
