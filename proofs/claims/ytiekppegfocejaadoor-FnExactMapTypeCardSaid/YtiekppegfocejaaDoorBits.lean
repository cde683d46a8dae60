
/- Sets of grades: the walks. -/
import Derived.Test.YtiekppegfocejaaDoorAcc
import Derived.Test.YtiekppegfocejaaDoorSets
namespace Go.Proofs.YtiekppegfocejaaDoor
open Go.RowKit

theorem inRange_ans {W : World} (g n : Int) (p : Bool) (hp : p = true ↔ 0 ≤ g ∧ g < n) (x : Ext W) :
    Calls Tryd.prog 86 #[.int .i64 g, .int .i64 n] x.w (Ans W (.bool p)) := by
  have HP := Lib.hid hp
  clear hp
  by_cases h0 : 0 ≤ g
  · by_cases h1 : g < n
    · go_enter Tryd.func86, Tryd.ntmps86
      go_wp2
      go_ret
      exact fin_true HP ⟨h0, h1⟩ ⟨x, rfl⟩
    · go_enter Tryd.func86, Tryd.ntmps86
      go_wp2
      go_ret
      exact fin_false HP (by omega) ⟨x, rfl⟩
  · go_enter Tryd.func86, Tryd.ntmps86
    go_wp2
    go_ret
    exact fin_false HP (by omega) ⟨x, rfl⟩

end Go.Proofs.YtiekppegfocejaaDoor
