/- The model's PartsOfType. -/
import Derived.Test.YtncfbljablbglaaDoorZ3KKidsSpec
import Derived.Test.YtncfbljablbglaaDoorZ3GX9
import Derived.Test.YtncfbljablbglaaDoorZ3GI
import Derived.Test.YtncfbljablbglaaDoorZ3GD
import Derived.Test.YtncfbljablbglaaDoorZ3GR
set_option linter.unusedVariables false
set_option linter.unusedSimpArgs false
namespace Go.Proofs.YtncfbljablbglaaDoor
open Go.RowKit

theorem cell_one_at (w : World) (x : Value) (t : TypeId) (n : Nat) (hn : n = w.heap.size) : ∀ j u, [x][j]? = some u → (w.alloc (.cells #[x] t)).cell? ((⟨n, 0, none⟩ : Addr).add j) = some u := by
  subst hn
  exact cell_one_new w x t
end Go.Proofs.YtncfbljablbglaaDoor
