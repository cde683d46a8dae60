
/- Sets of grades: the walks, more of them. -/
import Derived.Test.YteffcfaoganciaaKBits
namespace Go.Proofs.Yteffcfaoganciaa
open Go.RowKit

end Go.Proofs.Yteffcfaoganciaa
