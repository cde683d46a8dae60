
/- The law of CountSystem. -/
import Derived.Test.YteffcfaoganciaaGE
import Derived.Test.YteffcfaoganciaaKNumSpec
import Derived.Test.YteffcfaoganciaaKCountSys
import Derived.Test.YteffcfaoganciaaKCountZero
set_option linter.unusedVariables false
set_option linter.unusedSimpArgs false
namespace Go.Proofs.Yteffcfaoganciaa
open Go.RowKit

theorem countSystem_ans {W : World} (n : Int) (s : Sys) (hs : NumS countF n s) (x : Ext W) : Calls Try.prog 32 #[.int .i64 n] x.w (NewOwn W s) := by
  rcases hs with ⟨m, rfl, h1, h2, rfl⟩ | ⟨hn, rfl⟩
  · exact countSystem_in m h1 h2 x
  · exact countSystem_out n hn x

end Go.Proofs.Yteffcfaoganciaa
