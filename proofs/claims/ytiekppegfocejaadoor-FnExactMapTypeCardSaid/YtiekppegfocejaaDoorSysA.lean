
/- The program's test of a system. -/
import Derived.Test.YtiekppegfocejaaDoorSums
import Derived.Test.YtiekppegfocejaaDoorChecks
namespace Go.Proofs.YtiekppegfocejaaDoor
open Go.RowKit

theorem nn_facts {n : Int} (h1 : 2 ≤ n) (h2 : n ≤ 16) : 0 ≤ n * n ∧ n * n ≤ 256 := by
  have := idx_facts h1 h2 (a := 0) (b := 0) (by omega) (by omega)
  omega

end Go.Proofs.YtiekppegfocejaaDoor
