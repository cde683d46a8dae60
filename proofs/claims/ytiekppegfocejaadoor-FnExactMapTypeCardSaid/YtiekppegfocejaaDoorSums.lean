
import Derived.Test.YtiekppegfocejaaDoorAcc
import Derived.Test.YtiekppegfocejaaDoorSpec
namespace Go.Proofs.YtiekppegfocejaaDoor
open Go.RowKit

end Go.Proofs.YtiekppegfocejaaDoor
