/- The model's PartsOfType. -/
import Derived.Test.YtoefeijnnnioeaaDoorZ1KKidsSpec
import Derived.Test.YtoefeijnnnioeaaDoorZ1GX9
import Derived.Test.YtoefeijnnnioeaaDoorZ1GI
import Derived.Test.YtoefeijnnnioeaaDoorZ1GD
import Derived.Test.YtoefeijnnnioeaaDoorZ1GR
set_option linter.unusedVariables false
set_option linter.unusedSimpArgs false
namespace Go.Proofs.YtoefeijnnnioeaaDoor
open Go.RowKit

theorem cell_one_at (w : World) (x : Value) (t : TypeId) (n : Nat) (hn : n = w.heap.size) : ∀ j u, [x][j]? = some u → (w.alloc (.cells #[x] t)).cell? ((⟨n, 0, none⟩ : Addr).add j) = some u := by
  subst hn
  exact cell_one_new w x t

end Go.Proofs.YtoefeijnnnioeaaDoor
